import Derived.Test.YtihioekepflpiaaGreatDoorZb01
import Derived.Test.YtihioekepflpiaaGreatDoorZb02
import Derived.Test.YtihioekepflpiaaGreatDoorZb03
import Derived.Test.YtihioekepflpiaaGreatDoorZb12
import Derived.Test.YtihioekepflpiaaGreatDoorZb13
import Derived.Test.YtihioekepflpiaaGreatDoorZb15
import Derived.Test.YtihioekepflpiaaGreatDoorZb16
import Derived.Test.YtihioekepflpiaaGreatDoorChecked
import Derived.WalkKit
import Derived.BigQuiet
import Derived.Lib.Hide
import Derived.Lib.AtoiBound
import Derived.Shelf.Strconv.Atoi
import Derived.Shelf.Strconv.Itoa3
import Derived.Shelf.LaysM
import Derived.Shelf.LaysC
import Derived.Shelf.Strconv.ErrVar
import Derived.Test.YtihioekepflpiaaGreatDoorProg
set_option linter.unusedVariables false
set_option linter.unusedSimpArgs false
namespace Go.Proofs.YtihioekepflpiaaGreatDoor
open Go.RowKit
/-- A fact of a value and a world that stays where the world grows. -/
def Stays (P : Value → World → Prop) : Prop := ∀ x w w', World.grownBy w w' none → P x w → P x w'
def StaysAll : List (Value → World → Prop) → Prop
  | [] => True
  | P :: r => Stays P ∧ StaysAll r
def isV (v : Value) : Value → World → Prop := fun x _ => x = v
def isAny : Value → World → Prop := fun _ _ => True
theorem stays_V (v : Value) : Stays (isV v) := fun _ _ _ _ h => h
def flF (Ps : List (Value → World → Prop)) (j : Nat) : Value → World → Prop := Ps.getD j isAny
theorem flF_stays : ∀ {Ps : List (Value → World → Prop)}, StaysAll Ps → ∀ (j : Nat) (x : Value) (w w' : World), World.grownBy w w' none → flF Ps j x w → flF Ps j x w'
  | [], _, j, x, w, w', _, _ => by simp [flF, isAny]
  | P :: r, h, 0, x, w, w', hg, hx => h.1 x w w' hg hx
  | P :: r, h, j + 1, x, w, w', hg, hx => flF_stays h.2 j x w w' hg hx
section
variable {P : Program} {a : Act} {o : Oper} {w : World}
theorem pick_false {c x y : Operand} {v : Value} (ho : o.op = .pick c x y) (hc : a.eval c = .bool false) (hy : a.eval y = v) : (execOp a.eval o).run P w = .ok (.value v) w := by
  simp [execOp, ho, hc, hy, Sem.run_pure, asBool]
theorem neqint_val {t r : TypeId} {x y : Operand} {k : IntKind} {s : Int} (ho : o.op = .binOp .neq t x y r) (hx : a.eval x = .int k s) (hy : a.eval y = .int k s) : (execOp a.eval o).run P w = .ok (.value (.bool false)) w := by
  simp only [execOp, ho, hx, hy]
  simp [go_sem, eqGuard, Sem.run_pure, binOp]
theorem not_val {t : TypeId} {x : Operand} {b : Bool} (ho : o.op = .unOp .not t x) (hx : a.eval x = .bool b) : (execOp a.eval o).run P w = .ok (.value (.bool (!b))) w := by
  simp only [execOp, ho, hx]
  simp [go_sem]
end
section
variable {a : Act} {us : Nat → Value} {D : List Nat} {d : Nat}
theorem fill_nil : fill a [] us = a := by
  obtain ⟨⟨l⟩, e⟩ := a
  unfold fill
  congr 1
  congr 1
  refine List.ext_getElem (by simp) fun i h1 h2 => ?_
  simp
theorem fill_cons : fill a (d :: D) us = (fill a D us).put (some d) (us d) := by
  obtain ⟨⟨l⟩, e⟩ := a
  show (⟨_, e⟩ : Act) = ⟨((l.mapIdx fun k x => if D.contains k then us k else x).toArray).setIfInBounds d (us d), e⟩
  congr 1
  rw [List.setIfInBounds_toArray]
  congr 1
  refine List.ext_getElem (by simp only [List.length_set, List.length_mapIdx]) fun i h1 h2 => ?_
  simp only [List.getElem_set, List.getElem_mapIdx, List.contains_cons]
  by_cases hi : d = i
  · subst hi; simp
  · rw [if_neg hi]
    have : (i == d) = false := by simp; exact fun h => hi h.symm
    rw [this, Bool.false_or]
end
def regionsIn : Code → List Code
  | .seq a b => regionsIn a ++ regionsIn b
  | .cond _ a b => regionsIn a ++ regionsIn b
  | .block _ c => regionsIn c
  | .loop c => regionsIn c
  | .scope c => regionsIn c
  | .region i o d => [.region i o d]
  | _ => []
/-- The region of that number. -/
def regionIn (c : Option Code) (k : Nat) : Code := (((c.map regionsIn).getD []).find? fun r => match r with | .region i _ _ => i == k | _ => false).getD .skip
section
variable {P : Program} {ops : Array Oper} {md : Region.Mode} {C : World → Prop} {S : World → World → Prop} {F : Nat → Value → World → Prop} {a0 : Act} {D : List Nat} {j : Nat} {o : Oper}
end
end Go.Proofs.YtihioekepflpiaaGreatDoor
namespace Go.Proofs.YtihioekepflpiaaGreatDoor
open Go.RowKit
section
variable {P : Program} {a : Act} {o : Oper} {w : World}
theorem loadc_val {t : TypeId} {x : Operand} {p v : Value} (ho : o.op = .load t x) (hx : a.eval x = p) (h : (Instr.loadAt t p).run P w = .ok v w) : (execOp a.eval o).run P w = .ok (.value v) w := by
  simp [execOp, ho, hx, h, Result.andThen]
end
end Go.Proofs.YtihioekepflpiaaGreatDoor
namespace Go.Proofs.YtihioekepflpiaaGreatDoor
open Go.RowKit
/-- A date's six ints, as a struct. -/
abbrev dV (d : Cal.DI) : Value := .agg #[.int .i64 d.Y, .int .i64 d.M, .int .i64 d.D, .int .i64 d.h, .int .i64 d.mi, .int .i64 d.s]
theorem ms_le (y m : Nat) : Cal.ms y m ≤ 31 * m := by
  induction m with
  | zero => exact Nat.le_refl _
  | succ m ih =>
    rw [Cal.ms]
    have : Cal.days y (m + 1) ≤ 31 := by rw [← Cal.daysI_nat]; exact Cal.daysI_le _ _
    omega
end Go.Proofs.YtihioekepflpiaaGreatDoor
namespace Go.Proofs.YtihioekepflpiaaGreatDoor
open Go.RowKit
theorem fieldc_val {P : Program} {a : Act} {o : Oper} {w : World} {t : TypeId} {x : Operand} {k : Nat} {p v : Value} (ho : o.op = .fieldAddr t x k) (hx : a.eval x = p) (h : (Instr.fieldAt t p k).run P w = .ok v w) : (execOp a.eval o).run P w = .ok (.value v) w := by
  simp [execOp, ho, hx, h, Result.andThen]
end Go.Proofs.YtihioekepflpiaaGreatDoor
namespace Go.Proofs.YtihioekepflpiaaGreatDoor
open Go.RowKit
theorem var_grown {w w' : World} {name : String} {cs : Array Value} (h : w.var? Tryz.prog name = some cs) (hg : w.grownBy w' none) : w'.var? Tryz.prog name = some cs := by
  unfold World.var? at h ⊢
  cases hn : Tryz.prog.globalNamed name with
  | none => rw [hn] at h; cases h
  | some g =>
    rw [hn] at h
    simp only [Option.bind_some] at h ⊢
    rcases Nat.lt_or_ge g w.heap.size with hl | hl
    · rw [hg.block g hl (by simp)]; exact h
    · rw [Array.getElem?_eq_none hl] at h; cases h
/-- What stands in the library's variables that Itoa and Atoi read. -/
structure Figs (w : World) (tp : TypeId) (p : Value) : Prop where
  tab : Lib.TabIs Tryz.prog w "internal/strconv.uint64pow10" .u64 Lib.pow10Tab
  err : w.var? Tryz.prog "strconv.ErrSyntax" = some #[.iface tp p]
theorem Figs.grown {w w' : World} {tp : TypeId} {p : Value} (h : Figs w tp p) (hg : w.grownBy w' none) : Figs w' tp p := ⟨var_grown h.tab hg, var_grown h.err hg⟩
end Go.Proofs.YtihioekepflpiaaGreatDoor
