import Derived.Test.YtijkaknggdaajaaGreatDoorChecked
import Derived.Test.YtijkaknggdaajaaGreatDoorRows
import Derived.JoinedOf
import Derived.KernelRfl
set_option linter.unusedVariables false
set_option linter.unusedSimpArgs false
set_option maxRecDepth 100000
namespace Go.Proofs.YtijkaknggdaajaaGreatDoor
open Go
theorem and_both {a b:Bool} (h:a=true) (k:b=true):(a&&b)=true:=by rw[h,k];rfl
set_option maxHeartbeats 0 in
theorem namesRead_closed:joinedFacts Tryz.prog 4 Tryz.f4 Rows.namesReadSpec Rows.namesReadRow=true:=by
 unfold joinedFacts
 repeat' with_reducible refine and_both ?_ ?_
 all_goals (as_aux_lemma=>kernel_rfl)
end Go.Proofs.YtijkaknggdaajaaGreatDoor
