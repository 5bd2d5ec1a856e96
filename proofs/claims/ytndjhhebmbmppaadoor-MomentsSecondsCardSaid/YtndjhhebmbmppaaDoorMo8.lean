/- All that the laws of stage 6 ask of package moments, in one. -/
import Derived.Test.YtndjhhebmbmppaaDoorMo0
namespace Go.Proofs.YtndjhhebmbmppaaDoor
open Go.RowKit
structure MoAll (A : Nat → Addr) (W : World) : Prop where
  of : MoOf A W
  put : MoPut A W
  sec : MoSec A W
  get : MoGet A W
  wd : MoWd W
  add : MoAdd A W
  leap : MoLeap W
  days : MoDays W
end Go.Proofs.YtndjhhebmbmppaaDoor
