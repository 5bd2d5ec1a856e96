import Derived.Test.YtjjbkpjjmbfdhaaGreatDoorChecked
import Derived.Test.YtjjbkpjjmbfdhaaGreatDoorRows
import Derived.JoinedOf
import Derived.KernelRfl
set_option linter.unusedVariables false
set_option linter.unusedSimpArgs false
set_option maxRecDepth 100000
namespace Go.Proofs.YtjjbkpjjmbfdhaaGreatDoor
open Go
theorem and_both {a b:Bool} (h:a=true) (k:b=true):(a&&b)=true:=by rw[h,k];rfl
set_option maxHeartbeats 0 in
theorem bundleBytes_closed:joinedFacts Tryz.prog 3 Tryz.f3 Rows.bundleBytesSpec Rows.bundleBytesRow=true:=by
 unfold joinedFacts
 repeat' with_reducible refine and_both ?_ ?_
 all_goals (as_aux_lemma=>kernel_rfl)
end Go.Proofs.YtjjbkpjjmbfdhaaGreatDoor
