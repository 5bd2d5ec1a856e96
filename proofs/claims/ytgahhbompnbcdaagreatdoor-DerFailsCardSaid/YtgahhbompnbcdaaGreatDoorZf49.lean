import Derived.Test.YtgahhbompnbcdaaGreatDoorChecked
import Derived.Test.YtgahhbompnbcdaaGreatDoorRows
import Derived.JoinedOf
import Derived.KernelRfl
set_option linter.unusedVariables false
set_option linter.unusedSimpArgs false
namespace Go.Proofs.YtgahhbompnbcdaaGreatDoor
open Go
theorem and_both {a b : Bool} (h : a = true) (k : b = true) : (a && b) = true := by rw [h, k]; rfl
set_option maxRecDepth 100000 in
set_option maxHeartbeats 0 in
theorem derFails_closed : joinedFacts Tryz.prog 7 Tryz.f7 Rows.derFailsSpec Rows.derFailsRow = true := by
  unfold joinedFacts
  repeat' with_reducible refine and_both ?_ ?_
  all_goals (as_aux_lemma => kernel_rfl)
end Go.Proofs.YtgahhbompnbcdaaGreatDoor
