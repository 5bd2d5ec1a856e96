import Derived.Test.YtihioekepflpiaaGreatDoorZb01
import Derived.Test.YtihioekepflpiaaGreatDoorZb03
import Derived.Test.YtihioekepflpiaaGreatDoorZb14
import Derived.Test.YtihioekepflpiaaGreatDoorZb17
import Derived.Test.YtihioekepflpiaaGreatDoorZb31
import Derived.Laws.RangeString
import Derived.Laws.RangeAny
import Derived.Lib.RuneCount
import Derived.BigQuiet
set_option linter.unusedVariables false
set_option linter.unusedSimpArgs false
namespace Go.Proofs.YtihioekepflpiaaGreatDoor
open Go.RowKit
/-- The library's two tables of UTF-8 are as its text lays them. -/
def U8 (w : World) : Prop := Lib.Utf8Tabs 29 30 w
theorem U8.grown {w w' : World} (h : U8 w) (hg : w.grownBy w' none) : U8 w' := by
  have key : ∀ (a : Addr) (v : Value), w.cell? a = some v → w'.cell? a = some v := fun a v hv =>
    (World.cell?_of_block (hg.block _ (World.block_lt_of_cell? w _ hv) (by simp))).trans hv
  exact ⟨fun c hc => key _ _ (h.1 c hc), fun i hi => ⟨key _ _ (h.2 i hi).1, key _ _ (h.2 i hi).2⟩⟩
theorem valid_any (s : ByteArray) (w : World) (hs : s.size ≤ 1000) (hT : U8 w) :
    Calls Tryz.prog 115 #[.string s] w fun e w' => e = .returned (.bool (Lib.validD s.data.toList)) ∧ w.grownBy w' none :=
  (Any.utf8_ValidString Tryz.lays196 s w (by omega) hT).mono fun e w' ⟨h1, h2⟩ => ⟨h1, ⟨h2.os, h2.tape, h2.output, h2.size, fun k hk _ => h2.block k hk⟩⟩
set_option maxRecDepth 100000 in
theorem plain_any (w : World) (hT : U8 w) : TxPlain w := by
  intro s W hs hg
  have hV := valid_any s W hs (hT.grown hg)
  have hz : s.data.toList.length = s.size := by rw [Array.length_toList]; rfl
  by_cases hv : Lib.validD s.data.toList = true
  · rw [hv] at hV
    have eP : Pt.plain (strL s) = Pt.plain (Pt.nums (s.data.toList.drop 0)) := by rw [List.drop_zero]; rfl
    rw [eP]
    have hv0 : Lib.validD (s.data.toList.drop 0) = true := by rw [List.drop_zero]; exact hv
    obtain ⟨R, hR⟩ : ∃ R, R = Pt.plain (Pt.nums (s.data.toList.drop 0)) := ⟨_, rfl⟩
    rw [← hR]
    have H0 : Hid (Lib.validD (s.data.toList.drop 0) = true ∧ R = Pt.plain (Pt.nums (s.data.toList.drop 0))) := Lib.hid ⟨hv0, hR⟩
    have HZ := Lib.hid hz
    clear hR hv0 eP hv hz hT
    go_enter Tryz.func101, Tryz.ntmps101
    go_wp2_with (go_at_call 115; refine hV.mono ?_; rintro e w2 ⟨rfl, hg2⟩; have HG2 := Lib.hid hg2; clear hg2)
    go_loopw [4] (fun _ w' => ∃ pos, w' = w2.iter s pos ∧ Hid (Lib.validD (s.data.toList.drop pos) = true ∧ R = Pt.plain (Pt.nums (s.data.toList.drop pos)))) (fun _ w' => s.size - w'.iterPos w2.heap.size)
    case atStart => exact ⟨0, rfl, H0⟩
    case round =>
      obtain ⟨pos, rfl, H1⟩ := hrel
      clear H0
      by_cases hp : pos < s.size
      · have hnx : ∀ ty, (Instr.next (.pointer (some ⟨w2.heap.size, 0, none⟩)) true ty).run Tryz.prog (w2.iter s pos) = _ := fun ty => run_next_any w2 s pos ty hp
        have hwd := Lib.decode_width_pos s pos hp
        have hr := Lib.rune_le s pos
        have hd := Pt.plain_decode (s.data.toList.drop pos) (by intro e; have := congrArg List.length e; rw [List.length_drop, HZ.out, List.length_nil] at this; omega) H1.out.1
        rw [Lib.decodeL_drop, List.drop_drop, ← H1.out.2] at hd
        generalize (Utf8.decode s pos).1 = r at *
        generalize (Utf8.decode s pos).2 = k at *
        have HD := Lib.hid hd
        clear hd H1
        by_cases h32 : r < 32
        · have hR : R = false := by rw [HD.out.1, if_pos (.inl h32)]
          subst hR
          go_wp2
          go_ret
          exact ⟨grown_alloc HG2.out _, rfl⟩
        · by_cases h127 : r = 127
          · have hR : R = false := by rw [HD.out.1, if_pos (.inr h127)]
            subst hR
            subst h127
            go_wp2
            go_ret
            exact ⟨grown_alloc HG2.out _, rfl⟩
          · have HR : Hid (Lib.validD (s.data.toList.drop (pos + k)) = true ∧ R = Pt.plain (Pt.nums (s.data.toList.drop (pos + k)))) := Lib.hid ⟨HD.out.2, by have h := HD.out.1; rw [if_neg (by omega)] at h; exact h⟩
            have z1 : ¬ (r : Int) < 32 := by omega
            have z2 : ((r : Int) == 127) = false := by rw [beq_eq_false_iff_ne]; omega
            clear HD
            go_wp2
            go_roundw
            case rel => exact ⟨pos + k, rfl, HR⟩
            case measure => simp; omega
      · have hnx : ∀ ty, (Instr.next (.pointer (some ⟨w2.heap.size, 0, none⟩)) true ty).run Tryz.prog (w2.iter s pos) = _ := fun ty => run_next_end w2 s pos ty hp
        have hR : R = true := by
          rw [H1.out.2, List.drop_eq_nil_of_le (by rw [HZ.out]; omega)]
          rfl
        subst hR
        go_wp2
        go_ret
        exact ⟨grown_alloc HG2.out _, rfl⟩
  · have hv' : Lib.validD s.data.toList = false := by simpa using hv
    have eP : Pt.plain (strL s) = false := Pt.plain_invalid _ hv'
    rw [hv'] at hV
    rw [eP]
    go_enter Tryz.func101, Tryz.ntmps101
    go_wp2_with (go_at_call 115; refine hV.mono ?_; rintro e w2 ⟨rfl, hg2⟩; have HG2 := Lib.hid hg2; clear hg2)
    go_ret
    exact ⟨HG2.out, rfl⟩
end Go.Proofs.YtihioekepflpiaaGreatDoor
namespace Go.Proofs.YtihioekepflpiaaGreatDoor
open Go.RowKit
theorem err_long {w : World} {A : Nat → Addr} (h : AllErrs w A) : w.cell? ⟨4, 0, none⟩ = some (errV A 3) := errs_at h 3 (by decide)
theorem err_text {w : World} {A : Nat → Addr} (h : AllErrs w A) : w.cell? ⟨9, 0, none⟩ = some (errV A 8) := errs_at h 8 (by decide)
/-- What fault hands back. -/
def faultV (A : Nat → Addr) (k : Nat) : Value := if k = 0 then .nilIface else errV A k
set_option maxRecDepth 100000 in
theorem fault_any (A : Nat → Addr) (w : World) (hE : AllErrs w A) (hP : TxPlain w) (s : ByteArray) (most : Int) (W : World) (hs : s.size ≤ 1000) (hm : inT most) (hg : w.grownBy W none) :
    Calls Tryz.prog 80 #[.string s, .int .i64 most] W fun e w' => W.grownBy w' none ∧ e = .returned (faultV A (Pt.asked (strL s) most)) := by
  have hEW := hE.grown hg
  have e2 := err_short hEW
  have e3 := err_long hEW
  have hPl := hP s W hs hg
  have hzl := strL_len s
  rw [Pt.asked, hzl]
  unfold inT at hm
  by_cases h0 : s.size = 0
  · rw [if_pos h0]
    go_enter Tryz.func80, Tryz.ntmps80
    go_wp2
    go_ret
    exact ⟨grown_refl _ _, rfl⟩
  · rw [if_neg h0]
    have z0 : ((s.size : Int) == 0) = false := by rw [beq_eq_false_iff_ne]; omega
    by_cases h1 : most < (s.size : Int)
    · rw [if_pos h1]
      go_enter Tryz.func80, Tryz.ntmps80
      go_wp2
      go_ret
      exact ⟨grown_refl _ _, rfl⟩
    · rw [if_neg h1]
      have HE := Lib.hid hEW
      clear hEW hE e2 e3
      cases hp : Pt.plain (strL s) with
      | true =>
        rw [hp] at hPl
        rw [if_pos rfl]
        go_enter Tryz.func80, Tryz.ntmps80
        go_wp2_with (go_at_call 101; refine hPl.mono ?_; rintro e w2 ⟨hg2, rfl⟩; have HG2 := Lib.hid hg2; clear hg2)
        go_ret
        exact ⟨HG2.out, rfl⟩
      | false =>
        rw [hp] at hPl
        rw [if_neg (by decide)]
        go_enter Tryz.func80, Tryz.ntmps80
        go_wp2_with (go_at_call 101; refine hPl.mono ?_; rintro e w2 ⟨hg2, rfl⟩; have HG2 := Lib.hid hg2; have e8 := err_text (HE.out.grown hg2); clear hg2)
        go_ret
        exact ⟨HG2.out, rfl⟩
theorem asked_ne {l : List Nat} {most : Int} (h : Pt.asked l most ≠ 0) : Pt.asked l most = 2 ∨ Pt.asked l most = 3 ∨ Pt.asked l most = 8 := by
  unfold Pt.asked at *
  repeat' split
  all_goals simp_all
set_option maxRecDepth 100000 in
theorem xput_any (A : Nat → Addr) (w : World) (hE : AllErrs w A) (hP : TxPlain w) : TxPut A w := by
  intro s most W hs hm hg
  have hF := fault_any A w hE hP s most W hs hm hg
  by_cases hk : Pt.asked (strL s) most = 0
  · rw [hk] at hF
    simp only [if_pos hk]
    have hF' : Calls Tryz.prog 80 #[.string s, .int .i64 most] W fun e w' => W.grownBy w' none ∧ e = .returned .nilIface := hF
    clear hF hk hE hP hg
    go_enter Tryz.func59, Tryz.ntmps59
    go_wp2_with (first
      | (go_at_call 80; refine hF'.mono ?_; rintro e w2 ⟨hg2, rfl⟩; have HG2 := Lib.hid hg2; clear hg2)
      | (refine wpList_strBy (by rfl) 9 58 (.tmp 13) (by rfl) Tryz.underlying9 Tryz.underlying58 Tryz.underlying5 s (by rfl) ?_; intro c w3 hg3 hB3; have HG3 := Lib.hid (grown_trans HG2.out hg3); have HB3 := Lib.hid hB3; clear hg3 hB3))
    go_ret2
    exact ⟨HG3.out, _, _, rfl, HB3.out⟩
  · simp only [if_neg hk]
    have hn := asked_ne hk
    generalize Pt.asked (strL s) most = k at *
    have hF' : Calls Tryz.prog 80 #[.string s, .int .i64 most] W fun e w' => W.grownBy w' none ∧ e = .returned (errV A k) := by
      unfold faultV at hF
      rw [if_neg hk] at hF
      exact hF
    clear hF hk hE hP hg
    go_enter Tryz.func59, Tryz.ntmps59
    go_wp2_with (go_at_call 80; refine hF'.mono ?_; rintro e w2 ⟨hg2, rfl⟩; have HG2 := Lib.hid hg2; clear hg2)
    go_ret2
    exact ⟨HG2.out, _, _, rfl⟩
end Go.Proofs.YtihioekepflpiaaGreatDoor
