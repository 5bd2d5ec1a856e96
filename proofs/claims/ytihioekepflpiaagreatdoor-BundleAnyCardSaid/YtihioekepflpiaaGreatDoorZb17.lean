import Derived.Test.YtihioekepflpiaaGreatDoorZb03
import Derived.Test.YtihioekepflpiaaGreatDoorZb16
import Derived.Laws.RangeString
import Derived.Laws.RangeAny
import Derived.Lib.RuneCount
import Derived.BigQuiet
set_option linter.unusedVariables false
set_option linter.unusedSimpArgs false
namespace Go.Proofs.YtihioekepflpiaaGreatDoor
open Go.RowKit
def TxLabel (w : World) : Prop := ∀ (s : ByteArray) (W : World), s.size ≤ 1000 → w.grownBy W none → Calls Tryz.prog 50 #[.string s] W fun e w' => W.grownBy w' none ∧ e = .returned (.bool (Pt.label (strL s)))
set_option maxRecDepth 100000 in
theorem isOf_any (r : Nat) (hr : r ≤ 1114111) (w : World) :
    Calls Tryz.prog 73 #[.int .i32 r] w fun e w' => e = .returned (.bool (Pt.okc r)) ∧ w' = w := by
  go_enter Tryz.func73, Tryz.ntmps73
  go_wp2
  all_goals (go_ret; refine ⟨congrArg Ending.returned (congrArg Value.bool ?_), rfl⟩; rw [Bool.eq_iff_iff]; simp [Pt.okc]; omega)
theorem index_str {P : Program} (w : World) (t : TypeId) (ht : P.underlying t = some .string) (s : ByteArray) (i : Int) (n : Nat) (hi : i = n) (hn : n < s.size) :
    (Instr.index t (.string s) (.int .i64 i)).run P w = .ok (.int .u8 ((strL s).getD n 0 : Nat)) w := by
  subst hi
  have h1 : 0 ≤ (n : Int) ∧ (n : Int) < (s.size : Int) := by omega
  have h2 : (s[(n : Int).toNat]'(by rw [Int.toNat_natCast]; exact hn)).toNat = (strL s).getD n 0 := by
    have e : strL s = Pt.nums s.data.toList := rfl
    rw [e, Pt.nums_at, Lib.getD_get!']
    congr 1
    cases s with
    | mk d => exact (getElem!_pos d n hn).symm
  rw [run_index_string w t s .i64 (n : Int) ht, dif_pos h1, ← h2]
set_option maxRecDepth 100000 in
theorem label_any (w : World) : TxLabel w := by
  intro s W hs hg
  have hz : s.data.toList.length = s.size := by rw [Array.length_toList]; rfl
  have hzl := strL_len s
  have eL : Pt.label (strL s) = (decide (1 ≤ s.size ∧ s.size ≤ 24) && (decide ((strL s).getD 0 0 ≠ 45) && (decide ((strL s).getD (s.size - 1) 0 ≠ 45) && (strL s).all Pt.okc))) := by rw [Pt.label, hzl]
  rw [eL]
  clear eL
  by_cases h0 : s.size = 0
  · rw [decide_eq_false (p := 1 ≤ s.size ∧ s.size ≤ 24) (by omega), Bool.false_and]
    go_enter Tryz.func50, Tryz.ntmps50
    go_wp2
    go_ret
    exact ⟨grown_refl _ _, rfl⟩
  · have z0 : ((s.size : Int) == 0) = false := by rw [beq_eq_false_iff_ne]; omega
    by_cases h24 : 24 < s.size
    · rw [decide_eq_false (p := 1 ≤ s.size ∧ s.size ≤ 24) (by omega), Bool.false_and]
      have z24 : (24 : Int) < (s.size : Int) := by omega
      go_enter Tryz.func50, Tryz.ntmps50
      go_wp2
      go_ret
      exact ⟨grown_refl _ _, rfl⟩
    · rw [decide_eq_true (p := 1 ≤ s.size ∧ s.size ≤ 24) (by omega), Bool.true_and]
      have z24 : ¬ (24 : Int) < (s.size : Int) := by omega
      have i0 : ∀ w, (Instr.index 9 (.string s) (.int .i64 0)).run Tryz.prog w = .ok (.int .u8 ((strL s).getD 0 0 : Nat)) w := fun w => index_str w 9 Tryz.underlying9 s 0 0 rfl (by omega)
      have iL : ∀ w, (Instr.index 9 (.string s) (.int .i64 ((s.size : Int) - 1))).run Tryz.prog w = .ok (.int .u8 ((strL s).getD (s.size - 1) 0 : Nat)) w := fun w => index_str w 9 Tryz.underlying9 s _ (s.size - 1) (by omega) (by omega)
      generalize (strL s).getD 0 0 = x at *
      generalize (strL s).getD (s.size - 1) 0 = y at *
      by_cases hx : x = 45
      · subst hx
        rw [decide_eq_false (p := (45 : Nat) ≠ 45) (by omega), Bool.false_and]
        go_enter Tryz.func50, Tryz.ntmps50
        go_wp2
        go_ret
        exact ⟨grown_refl _ _, rfl⟩
      · rw [decide_eq_true hx, Bool.true_and]
        have zx : ((x : Int) == 45) = false := by rw [beq_eq_false_iff_ne]; omega
        by_cases hy : y = 45
        · subst hy
          rw [decide_eq_false (p := (45 : Nat) ≠ 45) (by omega), Bool.false_and]
          go_enter Tryz.func50, Tryz.ntmps50
          go_wp2
          go_ret
          exact ⟨grown_refl _ _, rfl⟩
        · rw [decide_eq_true hy, Bool.true_and]
          have zy : ((y : Int) == 45) = false := by rw [beq_eq_false_iff_ne]; omega
          have eP : (strL s).all Pt.okc = (Pt.nums (s.data.toList.drop 0)).all Pt.okc := by rw [List.drop_zero]; rfl
          rw [eP]
          obtain ⟨R, hR⟩ : ∃ R, R = (Pt.nums (s.data.toList.drop 0)).all Pt.okc := ⟨_, rfl⟩
          rw [← hR]
          have H0 : Hid (R = (Pt.nums (s.data.toList.drop 0)).all Pt.okc) := Lib.hid hR
          have HZ := Lib.hid hz
          clear hR eP hz hzl hg
          go_enter Tryz.func50, Tryz.ntmps50
          go_wp2
          go_loopw [4] (fun _ w' => ∃ pos, w' = W.iter s pos ∧ Hid (R = (Pt.nums (s.data.toList.drop pos)).all Pt.okc)) (fun _ w' => s.size - w'.iterPos W.heap.size)
          case atStart => exact ⟨0, rfl, H0⟩
          case round =>
            obtain ⟨pos, rfl, H1⟩ := hrel
            clear H0
            by_cases hp : pos < s.size
            · have hnx : ∀ ty, (Instr.next (.pointer (some ⟨W.heap.size, 0, none⟩)) true ty).run Tryz.prog (W.iter s pos) = _ := fun ty => run_next_any W s pos ty hp
              have hwd := Lib.decode_width_pos s pos hp
              have hr := Lib.rune_le s pos
              have hd := Pt.allok_decode (s.data.toList.drop pos) (by intro e; have := congrArg List.length e; rw [List.length_drop, HZ.out, List.length_nil] at this; omega)
              rw [Lib.decodeL_drop, List.drop_drop, ← H1.out] at hd
              generalize (Utf8.decode s pos).1 = r at *
              generalize (Utf8.decode s pos).2 = k at *
              have hI := fun W => isOf_any r hr W
              have HD := Lib.hid hd
              clear hd H1
              cases hok : Pt.okc r with
              | false =>
                have hR : R = false := by rw [HD.out, hok, Bool.false_and]
                subst hR
                rw [hok] at hI
                go_wp2_with (go_at_call 73; refine (hI _).mono ?_; rintro e w3 ⟨rfl, rfl⟩)
                go_ret
                exact ⟨grown_alloc (grown_refl _ _) _, rfl⟩
              | true =>
                have HR : Hid (R = (Pt.nums (s.data.toList.drop (pos + k))).all Pt.okc) := Lib.hid (by have h := HD.out; rw [hok, Bool.true_and] at h; exact h)
                rw [hok] at hI
                clear HD
                go_wp2_with (go_at_call 73; refine (hI _).mono ?_; rintro e w3 ⟨rfl, hw3⟩; have hw3' := hw3.symm; subst hw3'; clear hw3)
                go_roundw
                case rel => exact ⟨pos + k, rfl, HR⟩
                case measure => simp; omega
            · have hnx : ∀ ty, (Instr.next (.pointer (some ⟨W.heap.size, 0, none⟩)) true ty).run Tryz.prog (W.iter s pos) = _ := fun ty => run_next_end W s pos ty hp
              have hR : R = true := by
                rw [H1.out, List.drop_eq_nil_of_le (by rw [HZ.out]; omega)]
                rfl
              subst hR
              go_wp2
              go_ret
              exact ⟨grown_alloc (grown_refl _ _) _, rfl⟩
end Go.Proofs.YtihioekepflpiaaGreatDoor
