import Derived.Test.YtihioekepflpiaaGreatDoorZb00
import Derived.Test.YtihioekepflpiaaGreatDoorZb01
import Derived.Test.YtihioekepflpiaaGreatDoorZb19
import Derived.Test.YtihioekepflpiaaGreatDoorZb27
import Derived.Test.YtihioekepflpiaaGreatDoorRows
import Derived.ProofKit
import Derived.OpenShut
import Derived.Lay
import Derived.Stop.LaidErr
import Derived.Below
import Derived.Carry
import Derived.LaidMore
import Derived.Lib.SmallJoins
import Derived.WalkKit
import Derived.WalkSpells
import Derived.WalkLawsBesides
import Derived.Deep.QuietTactic
import Derived.BigQuiet
import Derived.Laws.BitsAllLaws
import Derived.Lib.Hide
import Derived.Laws.AppendOwnNone
import Derived.Laws.BytesArg
import Derived.Lib.AppendStr
import Derived.OwnWalk
import Derived.Deep.MidRow
import Derived.Deep.Draws
namespace Go.Proofs.YtihioekepflpiaaGreatDoor
open Go.ChangeShapes Go.WideShapes Go.ChangeAt Go.RowKit
set_option maxRecDepth 100000 in
theorem int_in {w : World} {r : Reach} {base : Nat} {v : Value} (h : Value.okWide Tryz.prog w r base 3 v) : ∃ n, v = .int .i64 n ∧ -9223372036854775808 ≤ n ∧ n ≤ 9223372036854775807 := by
  simp only [Value.okWide, Tryz.underlying3, Cell.okWide] at h
  cases v with
  | int k n =>
    simp only [Cell.ok, Tryz.underlying3] at h
    obtain ⟨rfl, h1, h2⟩ := h
    exact ⟨n, rfl, by simpa [IntKind.min, IntKind.signed, IntKind.bits] using h1, by simpa [IntKind.max, IntKind.signed, IntKind.bits] using h2⟩
  | _ => simp [Cell.ok, Tryz.underlying3] at h
end Go.Proofs.YtihioekepflpiaaGreatDoor
