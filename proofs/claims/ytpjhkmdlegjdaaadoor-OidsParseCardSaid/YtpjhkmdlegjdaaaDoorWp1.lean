/- The walks of package whole: Truth, IsTrue. -/
import Derived.Test.YtpjhkmdlegjdaaaDoorEv
import Derived.Test.YtpjhkmdlegjdaaaDoorSub
import Derived.Test.YtpjhkmdlegjdaaaDoorMs4
namespace Go.Proofs.YtpjhkmdlegjdaaaDoor
open Go.RowKit

theorem retB {a b : Bool} (h : a = b) : Ending.returned (.bool a) = .returned (.bool b) := by rw [h]


/-- What IsTrue answers: the truth, and the error's number. -/
def isTrue (l : List Nat) : Bool × Nat :=
  match l with
  | [] => (false, 2)
  | [x] => if x = 0 then (false, 0) else if x = 255 then (true, 0) else (false, 4)
  | _ => (false, 4)

end Go.Proofs.YtpjhkmdlegjdaaaDoor
