import Derived.Test.YtagdcjpjbjboeaaGreatDoorChecked
import Derived.Test.YtagdcjpjbjboeaaGreatDoorRows
import Derived.JoinedOf
import Derived.KernelRfl
namespace Go.Proofs.YtagdcjpjbjboeaaGreatDoor
open Go
theorem and_both {a b : Bool} (h : a = true) (k : b = true) : (a && b) = true := by rw [h, k]; rfl
set_option maxRecDepth 100000 in
set_option maxHeartbeats 0 in
theorem derBack_closed : joinedFacts Tryz.prog 4 Tryz.f4 Rows.derBackSpec Rows.derBackRow = true := by
  unfold joinedFacts
  repeat' with_reducible refine and_both ?_ ?_
  all_goals (as_aux_lemma => kernel_rfl)
end Go.Proofs.YtagdcjpjbjboeaaGreatDoor
