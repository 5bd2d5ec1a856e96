/- The walk of the document's Label. -/
import Derived.Test.YtepjjgplnmkjgaaDoorPt0
import Derived.Test.YtepjjgplnmkjgaaDoorAp
import Derived.Test.YtepjjgplnmkjgaaDoorChecked
import Derived.WalkKit
import Derived.BigQuiet
import Derived.Lib.Hide
namespace Go.Proofs.YtepjjgplnmkjgaaDoor
open Go.RowKit
set_option linter.unusedVariables false

theorem retB7 {a b : Bool} (h : a = b) : Ending.returned (.bool a) = .returned (.bool b) := by rw [h]
namespace Pt
theorem label_false {l : List Nat} (k : Nat) (hk : k < l.length) (h : okc (l.getD k 0) = false) : label l = false := by
  have : l.all okc = false := by
    rw [List.all_eq_false]
    refine ⟨l.getD k 0, ?_, by rw [h]; decide⟩
    rw [List.getD_eq_getElem?_getD, List.getElem?_eq_getElem hk]; exact List.getElem_mem hk
  rw [label, this, Bool.and_false, Bool.and_false, Bool.and_false]
theorem label_true {l : List Nat} (h1 : 1 ≤ l.length ∧ l.length ≤ 24) (h2 : l.getD 0 0 ≠ 45) (h3 : l.getD (l.length - 1) 0 ≠ 45) (h : ∀ k, k < l.length → okc (l.getD k 0) = true) : label l = true := by
  have : l.all okc = true := by
    rw [List.all_eq_true]
    intro x hx
    obtain ⟨k, hk, rfl⟩ := List.getElem_of_mem hx
    have := h k hk
    rw [List.getD_eq_getElem?_getD, List.getElem?_eq_getElem hk] at this
    exact this
  rw [label, this, decide_eq_true h1, decide_eq_true h2, decide_eq_true h3]; rfl
theorem label_head {l : List Nat} (h : ¬ (1 ≤ l.length ∧ l.length ≤ 24) ∨ l.getD 0 0 = 45 ∨ l.getD (l.length - 1) 0 = 45) : label l = false := by
  rcases h with h | h | h
  · rw [label, decide_eq_false h, Bool.false_and]
  · rw [label, decide_eq_false (show ¬ l.getD 0 0 ≠ 45 from fun e => e h), Bool.false_and, Bool.and_false]
  · rw [label, decide_eq_false (show ¬ l.getD (l.length - 1) 0 ≠ 45 from fun e => e h), Bool.false_and, Bool.and_false, Bool.and_false]
theorem okc_iff (c : Nat) : okc c = true ↔ (97 ≤ c ∧ c ≤ 122) ∨ (48 ≤ c ∧ c ≤ 57) ∨ c = 45 := by simp [okc]
end Pt

set_option maxRecDepth 100000 in
set_option maxHeartbeats 2000000 in
theorem refLabel_any (s : ByteArray) (hs : s.size ≤ 1000000) (w : World) : Calls Tryd.prog 32 #[.string s] w fun e w' => e = .returned (.bool (Pt.label (strL s))) ∧ w' = w := by
  obtain ⟨L, hL⟩ : ∃ L, L = strL s := ⟨_, rfl⟩
  obtain ⟨n, hn⟩ : ∃ n, n = s.size := ⟨_, rfl⟩
  have hLn : L.length = n := by rw [hL, strL_len, hn]
  have h8 : ∀ x ∈ L, x < 256 := by rw [hL]; exact strL_lt s
  have HIx : Hid (∀ j : Nat, j < n → ∀ W, (Instr.index 9 (.string s) (.int .i64 (j : Int))).run Tryd.prog W = .ok (.int .u8 (L.getD j 0 : Nat)) W) := Lib.hid (fun j hj W => by
    have hjs : j < s.size := by omega
    have h2 : (0 : Int) ≤ (j : Int) ∧ (j : Int) < (s.size : Int) := ⟨by omega, by omega⟩
    have e : (s[j]'hjs).toNat = L.getD j 0 := by rw [hL]; exact strL_getD s j hjs
    rw [run_index_string W _ s .i64 j Tryd.underlying9, dif_pos h2, ← e]
    rfl)
  have hsz : (s.size : Int) = (n : Int) := by rw [hn]
  have H8 : Hid (∀ j, L.getD j 0 < 256) := Lib.hid (fun j => by
    rcases Nat.lt_or_ge j L.length with h | h
    · rw [List.getD_eq_getElem?_getD, List.getElem?_eq_getElem h]; exact h8 _ (List.getElem_mem h)
    · rw [List.getD_eq_getElem?_getD, List.getElem?_eq_none h]; decide)
  have HH : Hid (¬ (1 ≤ n ∧ n ≤ 24) ∨ L.getD 0 0 = 45 ∨ L.getD (n - 1) 0 = 45 → Pt.label L = false) := Lib.hid (fun h => Pt.label_head (by rw [hLn]; exact h))
  have HF : Hid (∀ k, k < n → Pt.okc (L.getD k 0) = false → Pt.label L = false) := Lib.hid (fun k hk h => Pt.label_false k (by omega) h)
  have HT : Hid (1 ≤ n ∧ n ≤ 24 → L.getD 0 0 ≠ 45 → L.getD (n - 1) 0 ≠ 45 → (∀ k, k < n → Pt.okc (L.getD k 0) = true) → Pt.label L = true) := Lib.hid (fun h1 h2 h3 h => Pt.label_true (by rw [hLn]; exact h1) h2 (by rw [hLn]; exact h3) (fun k hk => h k (by omega)))
  rw [← hL]
  obtain ⟨R, hR⟩ : ∃ R, R = Pt.label L := ⟨_, rfl⟩
  rw [← hR] at HH HF HT ⊢
  clear hR hL h8 hLn
  rcases Nat.lt_or_ge n 1 with n1 | n1
  · have HFF := Lib.hid (HH.out (.inl (by omega)))
    go_enter Tryd.func32, Tryd.ntmps32
    go_wp2
    go_ret
    exact ⟨retB7 HFF.out.symm, rfl⟩
  · rcases Nat.lt_or_ge 24 n with n2 | n2
    · have HFF := Lib.hid (HH.out (.inl (by omega)))
      go_enter Tryd.func32, Tryd.ntmps32
      go_wp2
      go_ret
      exact ⟨retB7 HFF.out.symm, rfl⟩
    · have i0 : (Instr.index 9 (.string s) (.int .i64 0)).run Tryd.prog w = .ok (.int .u8 ((L.getD 0 0 : Nat) : Int)) w := HIx.out 0 (by omega) w
      have b0 := H8.out 0
      by_cases q0 : L.getD 0 0 = 45
      · have HFF := Lib.hid (HH.out (.inr (.inl q0)))
        rw [q0, show ((45 : Nat) : Int) = 45 from rfl] at i0
        go_enter Tryd.func32, Tryd.ntmps32
        go_wp2
        go_ret
        exact ⟨retB7 HFF.out.symm, rfl⟩
      · have i1 := HIx.out (n - 1) (by omega) w
        rw [show (((n - 1 : Nat) : Nat) : Int) = (n : Int) - 1 by omega] at i1
        have hne0 : (((L.getD 0 0 : Nat) : Int) == 45) = false := beq_eq_false_iff_ne.2 (by omega)
        by_cases q1 : L.getD (n - 1) 0 = 45
        · have HFF := Lib.hid (HH.out (.inr (.inr q1)))
          rw [q1, show ((45 : Nat) : Int) = 45 from rfl] at i1
          generalize L.getD 0 0 = x0 at *
          clear q0
          go_enter Tryd.func32, Tryd.ntmps32
          go_wp2
          go_ret
          exact ⟨retB7 HFF.out.symm, rfl⟩
        · have hne1 : (((L.getD (n - 1) 0 : Nat) : Int) == 45) = false := beq_eq_false_iff_ne.2 (by omega)
          have b1 := H8.out (n - 1)
          have HTT := Lib.hid (HT.out ⟨n1, n2⟩ q0 q1)
          generalize L.getD 0 0 = x0 at *
          generalize L.getD (n - 1) 0 = x1 at *
          clear q0 q1
          go_enter Tryd.func32, Tryd.ntmps32
          go_wp2
          clear i0 i1 b0 b1
          go_loopw [3] (fun i wr => ∃ k : Nat, k ≤ n ∧ i = .int .i64 (k : Int) ∧ wr = w ∧ ∀ j, j < k → Pt.okc (L.getD j 0) = true) (fun i _ => n - (intOf i).toNat)
          case atStart => exact ⟨0, Nat.zero_le _, rfl, rfl, fun j hj => absurd hj (Nat.not_lt_zero _)⟩
          case round =>
            obtain ⟨k, hk, rfl, rfl, hall⟩ := hrel
            have HAll := Lib.hid hall
            clear hall
            by_cases hkn : k < n
            · have ix := HIx.out k hkn wr
              have hb := H8.out k
              have HFk := Lib.hid (HF.out k hkn)
              generalize hx : L.getD k 0 = x at *
              have HX := Lib.hid hx
              clear hx
              have HFb : Hid (¬ ((97 ≤ x ∧ x ≤ 122) ∨ (48 ≤ x ∧ x ≤ 57) ∨ x = 45) → R = false) := Lib.hid (fun h => HFk.out (by rw [← Bool.not_eq_true, Pt.okc_iff]; exact h))
              have HNx : Hid ((97 ≤ x ∧ x ≤ 122) ∨ (48 ≤ x ∧ x ≤ 57) ∨ x = 45 → ∀ j, j < k + 1 → Pt.okc (L.getD j 0) = true) := Lib.hid (fun h j hj => by
                rcases Nat.lt_or_ge j k with h2 | h2
                · exact HAll.out j h2
                · obtain rfl : j = k := by omega
                  rw [HX.out, Pt.okc_iff]; exact h)
              by_cases e45 : x = 45
              · have HOk := Lib.hid (HNx.out (.inr (.inr e45)))
                clear HX
                subst e45
                go_wp2
                go_roundw
                case rel => exact ⟨k + 1, by omega, by go_num, trivial, HOk.out⟩
                case measure => simp [intOf]; omega
              · have hne : ((x : Int) != 45) = true := by simp; omega
                clear e45
                rcases Nat.lt_or_ge x 48 with c1 | c1
                · have HFF := Lib.hid (HFb.out (by intro h; rcases h with h | h | h <;> first | omega | (subst h; simp at hne)))
                  go_wp2
                  go_ret
                  exact ⟨retB7 HFF.out.symm, rfl⟩
                · rcases Nat.lt_or_ge 57 x with c2 | c2
                  · rcases Nat.lt_or_ge x 97 with c3 | c3
                    · have HFF := Lib.hid (HFb.out (by omega))
                      go_wp2
                      go_ret
                      exact ⟨retB7 HFF.out.symm, rfl⟩
                    · rcases Nat.lt_or_ge 122 x with c4 | c4
                      · have HFF := Lib.hid (HFb.out (by omega))
                        go_wp2
                        go_ret
                        exact ⟨retB7 HFF.out.symm, rfl⟩
                      · have HOk := Lib.hid (HNx.out (.inl ⟨c3, c4⟩))
                        go_wp2
                        go_roundw
                        case rel => exact ⟨k + 1, by omega, by go_num, trivial, HOk.out⟩
                        case measure => simp [intOf]; omega
                  · have HOk := Lib.hid (HNx.out (.inr (.inl ⟨c1, c2⟩)))
                    go_wp2
                    go_roundw
                    case rel => exact ⟨k + 1, by omega, by go_num, trivial, HOk.out⟩
                    case measure => simp [intOf]; omega
            · obtain rfl : k = n := by omega
              have HFF := Lib.hid (HTT.out HAll.out)
              go_wp2
              go_ret
              exact ⟨retB7 HFF.out.symm, rfl⟩

end Go.Proofs.YtepjjgplnmkjgaaDoor
