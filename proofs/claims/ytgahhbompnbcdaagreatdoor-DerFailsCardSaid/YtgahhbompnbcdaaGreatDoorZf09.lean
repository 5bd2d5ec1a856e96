import Derived.Test.YtgahhbompnbcdaaGreatDoorZf08
import Derived.OrdersHeld
import Derived.Deep.RegionHeld3
set_option linter.unusedVariables false
set_option linter.unusedSimpArgs false
namespace Go.Proofs.YtgahhbompnbcdaaGreatDoor
open Go
section
variable {P : Program} {ops : Array Oper} {md : Region.Mode} {C : World → Prop}
/-- The first k have come up. -/
def Since (k : Nat) (listed : Array Bool) : Prop := ∀ i, i < k → listed.getD i true = true
theorem Since.set {k i : Nat} {listed : Array Bool} (h : Since k listed) : Since k (listed.setIfInBounds i true) := fun j hj => by
  by_cases hij : i = j
  · subst hij
    have := h i hj
    rcases Nat.lt_or_ge i listed.size with h' | h' <;> simp_all
  · rw [getD_set_ne true hij]; exact h j hj
end
end Go.Proofs.YtgahhbompnbcdaaGreatDoor
