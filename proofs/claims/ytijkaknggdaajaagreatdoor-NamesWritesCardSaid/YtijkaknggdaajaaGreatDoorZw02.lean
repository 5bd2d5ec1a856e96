import Derived.Test.YtijkaknggdaajaaGreatDoorRows
import Derived.JoinedOf
set_option linter.unusedVariables false
set_option linter.unusedSimpArgs false
set_option maxRecDepth 100000
namespace Go.Proofs.YtijkaknggdaajaaGreatDoor
open Go.Proofs.Tryz
open Go
theorem zKH {a b:Bool} (h:a=true) (k:b=true):(a&&b)=true:=by rw[h,k];rfl
set_option maxHeartbeats 0 in
theorem zCw:joinedFacts prog 5 Tryz.f5 Rows.namesWritesSpec Rows.namesWritesRow=true:=by
 unfold joinedFacts
 repeat' with_reducible refine zKH ?_ ?_
 all_goals (as_aux_lemma=>kernel_rfl)
end Go.Proofs.YtijkaknggdaajaaGreatDoor
