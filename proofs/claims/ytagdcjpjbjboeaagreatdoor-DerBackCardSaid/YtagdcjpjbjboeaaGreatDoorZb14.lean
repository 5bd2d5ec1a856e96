import Derived.Test.YtagdcjpjbjboeaaGreatDoorZb00
import Derived.Test.YtagdcjpjbjboeaaGreatDoorZb01
import Derived.Test.YtagdcjpjbjboeaaGreatDoorZb03
import Derived.Test.YtagdcjpjbjboeaaGreatDoorZb10
import Derived.Test.YtagdcjpjbjboeaaGreatDoorZb13
import Derived.Test.YtagdcjpjbjboeaaGreatDoorChecked
import Derived.WalkKit
import Derived.BigQuiet
import Derived.Lib.Hide
import Derived.Laws.StructEq
import Derived.Laws.Rows
import Derived.Laws.Tables
namespace Go.Proofs.YtagdcjpjbjboeaaGreatDoor
open Go.RowKit
set_option linter.unusedVariables false
theorem retBo {a b : Bool} (h : a = b) : Ending.returned (.bool a) = .returned (.bool b) := by rw [h]
end Go.Proofs.YtagdcjpjbjboeaaGreatDoor
namespace Go.Proofs.YtagdcjpjbjboeaaGreatDoor
open Go.RowKit
theorem retB2 {a b : Bool} (h : a = b) : Ending.returned (.bool a) = .returned (.bool b) := by rw [h]
theorem retI2 {a b : Int} (h : a = b) : Ending.returned (.int .i64 a) = .returned (.int .i64 b) := by rw [h]
def monthsL : List Int := [31, 28, 31, 30, 31, 30, 31, 31, 30, 31, 30, 31]
theorem months_at {y : Int} (m : Nat) (h1 : m < 12) (h2 : (m : Int) + 1 ≠ 2 ∨ Cal.leapI y = false) : monthsL.getD m 0 = (Cal.daysI y ((m : Int) + 1) : Nat) := by
  match m, h1 with
  | 0, _ => rfl
  | 1, _ =>
    rcases h2 with h | h
    · exact absurd rfl h
    · simp [Cal.daysI, h, monthsL]
  | 2, _ => rfl
  | 3, _ => rfl
  | 4, _ => rfl
  | 5, _ => rfl
  | 6, _ => rfl
  | 7, _ => rfl
  | 8, _ => rfl
  | 9, _ => rfl
  | 10, _ => rfl
  | 11, _ => rfl
end Go.Proofs.YtagdcjpjbjboeaaGreatDoor
namespace Go.Proofs.YtagdcjpjbjboeaaGreatDoor
open Go.RowKit
section
variable {P : Program}
end
end Go.Proofs.YtagdcjpjbjboeaaGreatDoor
namespace Go.Proofs.YtagdcjpjbjboeaaGreatDoor
open Go Go.RowKit
section
variable {P : Program} {a : Act} {o : Oper} {w : World}
theorem move_val {x : Operand} {v : Value} (ho : o.op = .move x) (hx : a.eval x = v) : (execOp a.eval o).run P w = .ok (.value v) w := by
  simp [execOp, ho, hx, Sem.run_pure]
theorem load_val {ty t : TypeId} {x : Operand} {b : Nat} {cs : Array Value} {fr : Nat × Nat} {d : TypeDesc} (ho : o.op = .load ty x) (hx : a.eval x = .pointer (some ⟨b, 0, none⟩)) (h : w.heap[b]? = some (.cells cs t fr))
    (hu : P.underlying ty = some d) (hd : d.isRow = true) (hi : (P.info? ty).map (·.size) = some cs.size) : (execOp a.eval o).run P w = .ok (.value (.agg cs)) w := by
  have := run_loadVar_mid (P := P) w b 0 ty cs.toList d (range_all h) hu hd (by simpa using hi)
  simp only [Array.toArray_toList] at this
  simp [execOp, ho, hx, Instr.loadAt, Instr.sureAddr, Result.andThen_ok, this]
theorem pick_true {c x y : Operand} {v : Value} (ho : o.op = .pick c x y) (hc : a.eval c = .bool true) (hx : a.eval x = v) : (execOp a.eval o).run P w = .ok (.value v) w := by
  simp [execOp, ho, hc, hx, Sem.run_pure, asBool]
theorem call_enter {f : FuncId} {xs : Array Operand} {ts : Array TypeId} (ho : o.op = .call { callee := .value (.func f), args := xs, argTypes := ts }) (hc : ∀ args w, (callFunc f args).run P w = .ok (.enter f args) w) :
    (execOp a.eval o).run P w = .ok (.enter f (xs.map a.eval)) w := by
  simp only [execOp, ho]
  rw [← hc]
  simp [resolve, invoke, Act.eval, Deferred.ofValue]
theorem build1_val {t e : TypeId} {x : Operand} {v : Value} (ho : o.op = .buildSlice t 1 #[(0, x)]) (hx : a.eval x = v) (hb : (Instr.buildSlice t 1 #[(0, v)]).run P w = .ok (.slice (some ⟨w.heap.size, 0, none⟩) 1 1) (w.alloc (.cells #[v] e))) :
    (execOp a.eval o).run P w = .ok (.value (.slice (some ⟨w.heap.size, 0, none⟩) 1 1)) (w.alloc (.cells #[v] e)) := by
  simp only [execOp, ho, List.map_toArray, List.map_cons, List.map_nil, hx]
  simp [Result.andThen, hb]
theorem assign_val {x : Operand} {v : Value} (ho : o.op = .assign x) (hx : a.eval x = v) : (execOp a.eval o).run P w = .ok (.value v) w := by
  simp [execOp, ho, hx, Sem.run_pure]
theorem wpList_last {ops : Array Oper} {Q : Exit → Act → World → Prop} {v : Value} (hg : o.guard = none) (hr : (execOp a.eval o).run P w = .ok (.value v) w) (h : Q .normal (a.put o.dst v) w) : wpList P ops Q [o] a w := by
  refine wpList_plain hg fun K hK => ?_
  unfold Oper.wp
  rw [hr]
  exact hK _ _ h
end
end Go.Proofs.YtagdcjpjbjboeaaGreatDoor
namespace Go.Proofs.YtagdcjpjbjboeaaGreatDoor
open Go.RowKit
/-- A fact of a value and a world that stays where the world grows. -/
def Stays (P : Value → World → Prop) : Prop := ∀ x w w', World.grownBy w w' none → P x w → P x w'
def StaysAll : List (Value → World → Prop) → Prop
  | [] => True
  | P :: r => Stays P ∧ StaysAll r
def isV (v : Value) : Value → World → Prop := fun x _ => x = v
def isAny : Value → World → Prop := fun _ _ => True
theorem stays_V (v : Value) : Stays (isV v) := fun _ _ _ _ h => h
def flF (Ps : List (Value → World → Prop)) (j : Nat) : Value → World → Prop := Ps.getD j isAny
theorem flF_stays : ∀ {Ps : List (Value → World → Prop)}, StaysAll Ps → ∀ (j : Nat) (x : Value) (w w' : World), World.grownBy w w' none → flF Ps j x w → flF Ps j x w'
  | [], _, j, x, w, w', _, _ => by simp [flF, isAny]
  | P :: r, h, 0, x, w, w', hg, hx => h.1 x w w' hg hx
  | P :: r, h, j + 1, x, w, w', hg, hx => flF_stays h.2 j x w w' hg hx
section
variable {P : Program} {a : Act} {o : Oper} {w : World}
theorem pick_false {c x y : Operand} {v : Value} (ho : o.op = .pick c x y) (hc : a.eval c = .bool false) (hy : a.eval y = v) : (execOp a.eval o).run P w = .ok (.value v) w := by
  simp [execOp, ho, hc, hy, Sem.run_pure, asBool]
theorem addint_val {t r : TypeId} {x y : Operand} {k : IntKind} {n m : Int} (ho : o.op = .binOp .add t x y r) (hx : a.eval x = .int k n) (hy : a.eval y = .int k m) : (execOp a.eval o).run P w = .ok (.value (.int k (k.wrap (n + m)))) w := by
  simp only [execOp, ho, hx, hy]
  simp [go_sem, eqGuard, Sem.run_pure, binOp]
end
section
variable {a : Act} {us : Nat → Value} {D : List Nat} {d : Nat}
theorem fill_nil : fill a [] us = a := by
  obtain ⟨⟨l⟩, e⟩ := a
  unfold fill
  congr 1
  congr 1
  refine List.ext_getElem (by simp) fun i h1 h2 => ?_
  simp
theorem fill_cons : fill a (d :: D) us = (fill a D us).put (some d) (us d) := by
  obtain ⟨⟨l⟩, e⟩ := a
  show (⟨_, e⟩ : Act) = ⟨((l.mapIdx fun k x => if D.contains k then us k else x).toArray).setIfInBounds d (us d), e⟩
  congr 1
  rw [List.setIfInBounds_toArray]
  congr 1
  refine List.ext_getElem (by simp only [List.length_set, List.length_mapIdx]) fun i h1 h2 => ?_
  simp only [List.getElem_set, List.getElem_mapIdx, List.contains_cons]
  by_cases hi : d = i
  · subst hi; simp
  · rw [if_neg hi]
    have : (i == d) = false := by simp; exact fun h => hi h.symm
    rw [this, Bool.false_or]
end
def regionsIn : Code → List Code
  | .seq a b => regionsIn a ++ regionsIn b
  | .cond _ a b => regionsIn a ++ regionsIn b
  | .block _ c => regionsIn c
  | .loop c => regionsIn c
  | .scope c => regionsIn c
  | .region i o d => [.region i o d]
  | _ => []
/-- The region of that number. -/
def regionIn (c : Option Code) (k : Nat) : Code := (((c.map regionsIn).getD []).find? fun r => match r with | .region i _ _ => i == k | _ => false).getD .skip
section
variable {P : Program} {ops : Array Oper} {md : Region.Mode} {C : World → Prop} {S : World → World → Prop} {F : Nat → Value → World → Prop} {a0 : Act} {D : List Nat} {j : Nat} {o : Oper}
theorem wants_not {us : Nat → Value} {k d : Nat} {b : Bool} (h : o.guard = some (k, b)) (hk : (ops[k]?).bind (·.dst) = some d) (hd : D.contains d = true) (hl : d < a0.tmps.size) (hu : us d = .bool (!b)) : ¬ Wants ops o a0 D us := by
  unfold Wants Region.wanted
  rw [h]
  simp [yielded, hk, fill_at hd hl, hu]
/-- An operation that is passed over. -/
theorem flow_skip (hw : ∀ us w, C w → (∀ k, k ∈ depsOf md o → F k (us (dstOf ops k)) w) → ¬ Wants ops o a0 D us)
    (hS : ∀ w, S w w) (hF : ∀ v w, F j v w) : FlowAt P md ops C S F a0 D j o := by
  intro us w hC hd' Q hQ
  unfold wpList
  rw [if_neg (show ¬ Region.wanted o (yielded ops (fill a0 D us).tmps) = true from hw us w hC hd')]
  exact hQ undef w (hS w) (hF _ _)
end
end Go.Proofs.YtagdcjpjbjboeaaGreatDoor
namespace Go.Proofs.YtagdcjpjbjboeaaGreatDoor
open Go.RowKit
section
variable {P : Program} {a : Act} {o : Oper} {w : World}
theorem mulint_val {t r : TypeId} {x y : Operand} {k : IntKind} {n m : Int} (ho : o.op = .binOp .mul t x y r) (hx : a.eval x = .int k n) (hy : a.eval y = .int k m) : (execOp a.eval o).run P w = .ok (.value (.int k (k.wrap (n * m)))) w := by
  simp only [execOp, ho, hx, hy]
  simp [go_sem, eqGuard, Sem.run_pure, binOp]
theorem loadc_val {t : TypeId} {x : Operand} {p v : Value} (ho : o.op = .load t x) (hx : a.eval x = p) (h : (Instr.loadAt t p).run P w = .ok v w) : (execOp a.eval o).run P w = .ok (.value v) w := by
  simp [execOp, ho, hx, h, Result.andThen]
end
theorem loadI {w : World} {ad : Addr} {z : Int} (h : w.cell? ad = some (.int .i64 z)) : (Instr.loadAt 3 (.pointer (some ad))).run Tryz.prog w = .ok (.int .i64 z) w := by simp [go_sem, h]
end Go.Proofs.YtagdcjpjbjboeaaGreatDoor
namespace Go.Proofs.YtagdcjpjbjboeaaGreatDoor
open Go.RowKit
/-- x is v, where the guard is b. -/
def isIf (g b : Bool) (v : Value) : Value → World → Prop := fun x _ => g = b → x = v
theorem stays_If (g b : Bool) (v : Value) : Stays (isIf g b v) := fun _ _ _ _ h => h
section
variable {P : Program} {a : Act} {o : Oper} {w : World}
theorem fieldA_val {t : TypeId} {x : Operand} {k : Nat} {p v : Value} (ho : o.op = .fieldAddr t x k) (hx : a.eval x = p) (h : (Instr.fieldAt t p k).run P w = .ok v w) : (execOp a.eval o).run P w = .ok (.value v) w := by
  simp [execOp, ho, hx, h, Result.andThen]
end
end Go.Proofs.YtagdcjpjbjboeaaGreatDoor
namespace Go.Proofs.YtagdcjpjbjboeaaGreatDoor
open Go.RowKit
/-- A date's six ints, as a struct. -/
abbrev dV (d : Cal.DI) : Value := .agg #[.int .i64 d.Y, .int .i64 d.M, .int .i64 d.D, .int .i64 d.h, .int .i64 d.mi, .int .i64 d.s]
def dCells (d : Cal.DI) : List Int := [d.Y, d.M, d.D, d.h, d.mi, d.s]
theorem dCell {w W : World} {b : Nat} {t : TypeId} {fr : Nat × Nat} {d : Cal.DI} (h : w.heap[b]? = some (.cells #[.int .i64 d.Y, .int .i64 d.M, .int .i64 d.D, .int .i64 d.h, .int .i64 d.mi, .int .i64 d.s] t fr)) (hg : w.grownBy W none) :
    ∀ k z, (dCells d)[k]? = some z → W.cell? ⟨b, k, none⟩ = some (.int .i64 z) := fun k z hz => by
  have h2 : W.heap[b]? = _ := (hg.block b (blk_lt h) (by simp)).trans h
  refine cell_blk h2 k ?_
  match k, hz with
  | 0, hz => obtain rfl := Option.some.inj hz; rfl
  | 1, hz => obtain rfl := Option.some.inj hz; rfl
  | 2, hz => obtain rfl := Option.some.inj hz; rfl
  | 3, hz => obtain rfl := Option.some.inj hz; rfl
  | 4, hz => obtain rfl := Option.some.inj hz; rfl
  | 5, hz => obtain rfl := Option.some.inj hz; rfl
  | n + 6, hz => cases hz
theorem ms_le (y m : Nat) : Cal.ms y m ≤ 31 * m := by
  induction m with
  | zero => exact Nat.le_refl _
  | succ m ih =>
    rw [Cal.ms]
    have : Cal.days y (m + 1) ≤ 31 := by rw [← Cal.daysI_nat]; exact Cal.daysI_le _ _
    omega
end Go.Proofs.YtagdcjpjbjboeaaGreatDoor
namespace Go.Proofs.YtagdcjpjbjboeaaGreatDoor
set_option linter.unusedVariables false
open Go.RowKit
abbrev dateCells (Y M D h mi s : Nat) : Array Value := #[.int .i64 (Y : Int), .int .i64 (M : Int), .int .i64 (D : Int), .int .i64 (h : Int), .int .i64 (mi : Int), .int .i64 (s : Int)]
/-- Where Of stands: the result's row, the date so far. -/
structure OfS (w w' : World) (Y M D h mi s : Nat) : Prop where
  grown : w.grownBy w' none
  res : w'.heap[w.heap.size]? = some (.cells #[.int .i64 0, .int .i64 0, .int .i64 0, .int .i64 0, .int .i64 0, .int .i64 0] 196 (0, 0))
  blk : w'.heap[w.heap.size + 1]? = some (.cells (dateCells Y M D h mi s) 196 (0, 0))
theorem OfS.more {w w1 w2 : World} {Y M D h mi s : Nat} (o : OfS w w1 Y M D h mi s) (hg : w1.grownBy w2 none) : OfS w w2 Y M D h mi s :=
  ⟨grown_trans o.grown hg, (hg.block _ (blk_lt o.res) (by simp)).trans o.res, (hg.block _ (blk_lt o.blk) (by simp)).trans o.blk⟩
theorem OfS.put {w w1 : World} {Y M D h mi s : Nat} (o : OfS w w1 Y M D h mi s) (k : Nat) (z : Int) (cs : Array Value) (hc : (dateCells Y M D h mi s).setIfInBounds k (.int .i64 z) = cs) :
    w.grownBy (w1.setCell ⟨w.heap.size + 1, k, none⟩ (.int .i64 z)) none ∧ (w1.setCell ⟨w.heap.size + 1, k, none⟩ (.int .i64 z)).heap[w.heap.size]? = some (.cells #[.int .i64 0, .int .i64 0, .int .i64 0, .int .i64 0, .int .i64 0, .int .i64 0] 196 (0, 0)) ∧
      (w1.setCell ⟨w.heap.size + 1, k, none⟩ (.int .i64 z)).heap[w.heap.size + 1]? = some (.cells cs 196 (0, 0)) := by
  refine ⟨grown_set o.grown (.inl (by show w.heap.size ≤ w.heap.size + 1; omega)) _, ?_, ?_⟩
  · rw [Below.heap_setCell _ _ _ _ (by show _ ≠ w.heap.size + 1; omega)]; exact o.res
  · rw [heap_setCell_same w1 (w.heap.size + 1) k _ 196 _ o.blk, hc]
end Go.Proofs.YtagdcjpjbjboeaaGreatDoor
namespace Go.Proofs.YtagdcjpjbjboeaaGreatDoor
open Go.RowKit
namespace Cal
/-- What the first 2 k figures say, two and two. -/
def nums (l : List Nat) (k : Nat) : List Int := (List.range k).map fun j => ((num2 l (2 * j) : Nat) : Int)
theorem nums_len (l : List Nat) (k : Nat) : (nums l k).length = k := by simp [nums]
end Cal
theorem Cal.right_iff (d : Cal.Date) : Cal.rightI d.toI = true ↔ Cal.Right d := ⟨fun h => (Cal.right_of h).1, fun h => (Cal.rightI_of h).1⟩
end Go.Proofs.YtagdcjpjbjboeaaGreatDoor
namespace Go.Proofs.YtagdcjpjbjboeaaGreatDoor
open Go.RowKit
set_option linter.unusedVariables false
namespace Pt
/-- The rune's number behind j bytes more. -/
def acc (c0 : Nat) (l : List Nat) : Nat → Nat
  | 0 => c0
  | j + 1 => acc c0 l j * 64 + (l.getD (j + 1) 0 - 128)
end Pt
end Go.Proofs.YtagdcjpjbjboeaaGreatDoor
namespace Go.Proofs.YtagdcjpjbjboeaaGreatDoor
open Go.RowKit
theorem fieldc_val {P : Program} {a : Act} {o : Oper} {w : World} {t : TypeId} {x : Operand} {k : Nat} {p v : Value} (ho : o.op = .fieldAddr t x k) (hx : a.eval x = p) (h : (Instr.fieldAt t p k).run P w = .ok v w) : (execOp a.eval o).run P w = .ok (.value v) w := by
  simp [execOp, ho, hx, h, Result.andThen]
set_option linter.unusedVariables false
end Go.Proofs.YtagdcjpjbjboeaaGreatDoor
