/- The loops of the document's digest, taken out of the program by a function. -/
import Derived.Test.YtckdkcfhkakcfaaDoorRf1
import Derived.Test.YtckdkcfhkakcfaaDoorSh10
import Derived.Laws.AppendOwnNone
namespace Go.Proofs.YtckdkcfhkakcfaaDoor
open Go.RowKit

def loopsOf : Code → List Code
  | .seq a b => loopsOf a ++ loopsOf b
  | .cond _ a b => loopsOf a ++ loopsOf b
  | .block _ c => loopsOf c
  | .loop c => c :: loopsOf c
  | .scope c => loopsOf c
  | _ => []
noncomputable def refLoop (k : Nat) : Code := (((Tryd.f15.body.map loopsOf).getD [])[k]?).getD .skip

def bytesL (ws : List Nat) : List Value := ws.map fun (x : Nat) => Value.int .u8 (x : Int)
theorem bytesL_len (ws : List Nat) : (bytesL ws).length = ws.length := by simp [bytesL]
end Go.Proofs.YtckdkcfhkakcfaaDoor
