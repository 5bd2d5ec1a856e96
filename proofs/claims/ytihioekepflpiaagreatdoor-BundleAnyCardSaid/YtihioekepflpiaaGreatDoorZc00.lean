import Derived.Test.YtihioekepflpiaaGreatDoorChecked
import Derived.Test.YtihioekepflpiaaGreatDoorRows
import Derived.JoinedOf
import Derived.KernelRfl
namespace Go.Proofs.YtihioekepflpiaaGreatDoor
open Go
theorem and_bothA {a b : Bool} (h : a = true) (k : b = true) : (a && b) = true := by rw [h, k]; rfl
set_option maxRecDepth 100000 in
set_option maxHeartbeats 0 in
theorem bundleAny_closed : joinedFacts Tryz.prog 4 Tryz.f4 Rows.bundleAnySpec Rows.bundleAnyRow = true := by
  unfold joinedFacts
  repeat' with_reducible refine and_bothA ?_ ?_
  all_goals (as_aux_lemma => kernel_rfl)
end Go.Proofs.YtihioekepflpiaaGreatDoor
