/- cmp.Compare of ints. -/
import Derived.Test.YtepjjgplnmkjgaaDoorChecked
import Derived.WalkKit
import Derived.Lib.Hide
namespace Go.Proofs.YtepjjgplnmkjgaaDoor
open Go.RowKit

def cmpI (x y : Int) : Int := if x < y then -1 else if y < x then 1 else 0
set_option maxRecDepth 100000 in
theorem isNaN_any (x : Int) (w : World) : Calls Tryd.prog 37 #[.int .i64 x] w fun e w' => e = .returned (.bool false) ∧ w' = w := by
  have hb : (x != x) = false := by simp
  go_enter Tryd.func37, Tryd.ntmps37
  go_wp2
  go_ret
  exact ⟨rfl, rfl⟩
set_option maxRecDepth 100000 in
theorem cmpInt_any (x y : Int) (w : World) : Calls Tryd.prog 29 #[.int .i64 x, .int .i64 y] w fun e w' => e = .returned (.int .i64 (cmpI x y)) ∧ w' = w := by
  have HN := Lib.hid (fun (z : Int) (W : World) => isNaN_any z W)
  have H1 : x < y → Hid (cmpI x y = -1) := fun h => by rw [cmpI, if_pos h]; exact rfl
  have H2 : ¬ x < y → y < x → Hid (cmpI x y = 1) := fun h h' => by rw [cmpI, if_neg h, if_pos h']; exact rfl
  have H3 : ¬ x < y → ¬ y < x → Hid (cmpI x y = 0) := fun h h' => by rw [cmpI, if_neg h, if_neg h']; exact rfl
  by_cases hxy : x < y
  · have HX := H1 hxy
    clear H1 H2 H3
    generalize cmpI x y = c at *
    go_enter Tryd.func29, Tryd.ntmps29
    go_wp2_with (go_at_call 37; refine (HN.out _ _).mono ?_; rintro e w1 ⟨rfl, rfl⟩)
    go_ret
    exact ⟨by rw [HX.out]; rfl, rfl⟩
  · by_cases hyx : y < x
    · have HX := H2 hxy hyx
      clear H1 H2 H3
      generalize cmpI x y = c at *
      go_enter Tryd.func29, Tryd.ntmps29
      go_wp2_with (go_at_call 37; refine (HN.out _ _).mono ?_; rintro e w1 ⟨rfl, rfl⟩)
      go_ret
      exact ⟨by rw [HX.out]; rfl, rfl⟩
    · have HX := H3 hxy hyx
      clear H1 H2 H3
      generalize cmpI x y = c at *
      go_enter Tryd.func29, Tryd.ntmps29
      go_wp2_with (go_at_call 37; refine (HN.out _ _).mono ?_; rintro e w1 ⟨rfl, rfl⟩)
      go_ret
      exact ⟨by rw [HX.out]; rfl, rfl⟩

end Go.Proofs.YtepjjgplnmkjgaaDoor
