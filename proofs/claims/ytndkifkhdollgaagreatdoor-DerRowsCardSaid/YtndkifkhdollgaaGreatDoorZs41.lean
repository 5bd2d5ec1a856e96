import Derived.Test.YtndkifkhdollgaaGreatDoorZs00
import Derived.Test.YtndkifkhdollgaaGreatDoorZs01
import Derived.Test.YtndkifkhdollgaaGreatDoorZs03
import Derived.Test.YtndkifkhdollgaaGreatDoorZs11
import Derived.Test.YtndkifkhdollgaaGreatDoorZs13
import Derived.Test.YtndkifkhdollgaaGreatDoorZs14
import Derived.Test.YtndkifkhdollgaaGreatDoorZs15
import Derived.Test.YtndkifkhdollgaaGreatDoorZs16
import Derived.Test.YtndkifkhdollgaaGreatDoorZs19
import Derived.Test.YtndkifkhdollgaaGreatDoorZs20
import Derived.Test.YtndkifkhdollgaaGreatDoorZs21
import Derived.Laws.RangeString
import Derived.Laws.RangeAny
import Derived.Lib.RuneCount
import Derived.BigQuiet
import Derived.Lib.TrimUEq
import Derived.Lib.ValidLaws
import Derived.Deep.QuietTactic
import Derived.Test.YtndkifkhdollgaaGreatDoorChecked
import Derived.WalkKit
import Derived.Lib.Hide
set_option linter.unusedVariables false
set_option linter.unusedSimpArgs false
namespace Go.Proofs.YtndkifkhdollgaaGreatDoor
open Go.RowKit
def isM (t:Int):Prop:=0≤t∧t≤253402300799
instance (t:Int):Decidable (isM t):=by unfold isM;infer_instance
def isMk (m:Int):Prop:=0≤m∧m<32768
instance (m:Int):Decidable (isMk m):=by unfold isMk;infer_instance
abbrev cmpV:Value:=.func (.func 184) #[] #[]
end Go.Proofs.YtndkifkhdollgaaGreatDoor
