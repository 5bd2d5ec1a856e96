import Derived.Test.YtihioekepflpiaaGreatDoorZb00
import Derived.Test.YtihioekepflpiaaGreatDoorZb01
import Derived.Test.YtihioekepflpiaaGreatDoorZb02
import Derived.Test.YtihioekepflpiaaGreatDoorZb05
import Derived.Test.YtihioekepflpiaaGreatDoorZb15
import Derived.Test.YtihioekepflpiaaGreatDoorZb19
import Derived.Test.YtihioekepflpiaaGreatDoorZb24
import Derived.Test.YtihioekepflpiaaGreatDoorZb25
import Derived.BigQuiet
import Derived.Test.YtihioekepflpiaaGreatDoorChecked
import Derived.WalkKit
import Derived.Lib.Hide
import Derived.Laws.Rows
import Derived.Laws.Tables
set_option linter.unusedVariables false
set_option linter.unusedSimpArgs false
namespace Go.Proofs.YtihioekepflpiaaGreatDoor
open Go.RowKit
/-- A value, as it lies. -/
def ValV (w : World) (v : Value) (x : De.Val) : Prop := ∃ bv S, v = .agg #[.int .i64 x.kind, .int .i64 x.n, .bool x.is, bv, .string S] ∧ Bytes w bv x.b ∧ Whole0 bv ∧ strL S = x.t ∧ S.size ≤ 1000
theorem ValV.grown {w w' : World} {v : Value} {x : De.Val} (h : ValV w v x) (hg : w.grownBy w' none) : ValV w' v x := by
  obtain ⟨bv, S, h1, h2, h3⟩ := h
  exact ⟨bv, S, h1, h2.grown hg, h3⟩
theorem whole_pos {w : World} {v : Value} {l : List Nat} (h : Bytes w v l) (hl : 0 < l.length) : Whole0 v := by
  obtain ⟨_, a, sb, so, c, rfl, _, h1, _⟩ := h
  rw [(h1 hl).1]
  exact Whole0.some _ _ _
theorem loadI' {w : World} {ad : Addr} {z : Int} (h : w.cell? ad = some (.int .i64 z)) : (Instr.loadAt 3 (.pointer (some ad))).run Tryz.prog w = .ok (.int .i64 z) w := by simp [go_sem, h]
end Go.Proofs.YtihioekepflpiaaGreatDoor
