import Derived.Test.YtihioekepflpiaaGreatDoorChecked
import Derived.Test.YtihioekepflpiaaGreatDoorRows
import Derived.JoinedOf
import Derived.KernelRfl
set_option linter.unusedVariables false
set_option linter.unusedSimpArgs false
namespace Go.Proofs.YtihioekepflpiaaGreatDoor
open Go
theorem and_both {a b : Bool} (h : a = true) (k : b = true) : (a && b) = true := by rw [h, k]; rfl
set_option maxRecDepth 100000 in
set_option maxHeartbeats 0 in
theorem bundleSteps_closed : joinedFacts Tryz.prog 3 Tryz.f3 Rows.bundleStepsSpec Rows.bundleStepsRow = true := by
  unfold joinedFacts
  repeat' with_reducible refine and_both ?_ ?_
  all_goals (as_aux_lemma => kernel_rfl)
end Go.Proofs.YtihioekepflpiaaGreatDoor
