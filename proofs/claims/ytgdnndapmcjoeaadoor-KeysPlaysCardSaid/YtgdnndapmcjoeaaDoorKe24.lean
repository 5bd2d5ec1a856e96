import Derived.Test.YtgdnndapmcjoeaaDoorKe09
import Derived.Test.YtgdnndapmcjoeaaDoorKe13
import Derived.Test.YtgdnndapmcjoeaaDoorKe23
namespace Go.Proofs.YtgdnndapmcjoeaaDoor
open Go.RowKit
def regionsOf : Code → List Code
  | .seq a b => regionsOf a ++ regionsOf b
  | .cond _ a b => regionsOf a ++ regionsOf b
  | .block _ c => regionsOf c
  | .loop c => regionsOf c
  | .scope c => regionsOf c
  | .region i o d => [.region i o d]
  | _ => []
/-- The region of that number. -/
def regionAt (c : Option Code) (k : Nat) : Code := (((c.map regionsOf).getD []).find? fun r => match r with | .region i _ _ => i == k | _ => false).getD .skip
end Go.Proofs.YtgdnndapmcjoeaaDoor
