/- The document's Compare; package names' Right and Text; the laws' alive and long. -/
import Derived.Test.YtepjjgplnmkjgaaDoorNu1
import Derived.Test.YtepjjgplnmkjgaaDoorLb
namespace Go.Proofs.YtepjjgplnmkjgaaDoor
open Go.RowKit
set_option linter.unusedVariables false

set_option maxRecDepth 100000 in
theorem sign_any (b : Bool) (w : World) : Calls Tryd.prog 31 #[.bool b] w fun e w' => e = .returned (.int .i64 (if b = true then -1 else 1)) ∧ w' = w := by
  cases b
  all_goals
    go_enter Tryd.func31, Tryd.ntmps31
    go_wp2
    go_ret
    exact ⟨rfl, rfl⟩
set_option maxRecDepth 100000 in
set_option maxHeartbeats 2000000 in
theorem refCompare_any (a b : Na.Sb) (w : World) : Calls Tryd.prog 13 #[Na.val a, Na.val b] w fun e w' => e = .returned (.int .i64 (Na.cmp a b)) ∧ w.grownBy w' none := by
  obtain ⟨k1, s1, n1⟩ := a
  obtain ⟨k2, s2, n2⟩ := b
  have HS := Lib.hid (fun b W => sign_any b W)
  obtain ⟨R, hR⟩ : ∃ R, R = Na.cmp ⟨k1, s1, n1⟩ ⟨k2, s2, n2⟩ := ⟨_, rfl⟩
  rw [← hR]
  unfold Na.val
  have l1 := Na.less_str s1 s2
  have l2 := Na.less_str n1 n2
  have q1 := Na.eq_str s1 s2
  have q2 := Na.eq_str n1 n2
  have hR2 : R = if cmpI k1 k2 ≠ 0 then cmpI k1 k2 else if Na.cmpS s1 s2 ≠ 0 then Na.cmpS s1 s2 else Na.cmpS n1 n2 := hR
  clear hR
  by_cases hk : k1 = k2
  · subst hk
    have hkk : (k1 != k1) = false := by simp
    rw [if_neg (by rw [Na.cmpI_zero.2 rfl]; simp)] at hR2
    rcases Na.cmpS_cases s1 s2 with h | h | h
    all_goals
      rw [h] at l1 q1 hR2
      clear h
      simp only [Int.reduceNeg, Int.reduceEq, decide_true, decide_false, ne_eq, not_true_eq_false, not_false_eq_true, if_true, if_false, Bool.not_true, Bool.not_false] at l1 q1 hR2
    case inr.inl =>
      rcases Na.cmpS_cases n1 n2 with h | h | h
      all_goals
        rw [h] at l2 q2 hR2
        clear h
        simp only [Int.reduceNeg, Int.reduceEq, decide_true, decide_false, Bool.not_true, Bool.not_false] at l2 q2
        have HR := Lib.hid hR2
        clear hR2
        go_enter Tryd.func13, Tryd.ntmps13
        go_wp2_with (go_at_call 31; refine (HS.out _ _).mono ?_; rintro e w1 ⟨rfl, rfl⟩)
        go_ret
        exact ⟨by rw [HR.out]; rfl, grown_alloc (grown_alloc (grown_refl _ _) _) _⟩
    all_goals
      clear l2 q2
      have HR := Lib.hid hR2
      clear hR2
      go_enter Tryd.func13, Tryd.ntmps13
      go_wp2_with (go_at_call 31; refine (HS.out _ _).mono ?_; rintro e w1 ⟨rfl, rfl⟩)
      go_ret
      exact ⟨by rw [HR.out]; rfl, grown_alloc (grown_alloc (grown_refl _ _) _) _⟩
  · have hkk : (k1 != k2) = true := by simpa using hk
    rw [if_pos (fun h => hk (Na.cmpI_zero.1 h))] at hR2
    clear l1 l2 q1 q2
    by_cases hlt : k1 < k2
    · have HR : Hid (R = -1) := Lib.hid (by rw [hR2, cmpI, if_pos hlt])
      clear hR2 hk
      go_enter Tryd.func13, Tryd.ntmps13
      go_wp2_with (go_at_call 31; refine (HS.out _ _).mono ?_; rintro e w1 ⟨rfl, rfl⟩)
      go_ret
      exact ⟨by rw [HR.out]; rfl, grown_alloc (grown_alloc (grown_refl _ _) _) _⟩
    · have HR : Hid (R = 1) := Lib.hid (by rw [hR2, cmpI, if_neg hlt, if_pos (by omega)])
      clear hR2 hk
      go_enter Tryd.func13, Tryd.ntmps13
      go_wp2_with (go_at_call 31; refine (HS.out _ _).mono ?_; rintro e w1 ⟨rfl, rfl⟩)
      go_ret
      exact ⟨by rw [HR.out]; rfl, grown_alloc (grown_alloc (grown_refl _ _) _) _⟩
end Go.Proofs.YtepjjgplnmkjgaaDoor
