/- Steps of a region that draws its order, where guards are symbolic: facts that hold where the guard does; comparisons. -/
import Derived.Test.YtndjhhebmbmppaaDoorFl5
namespace Go.Proofs.YtndjhhebmbmppaaDoor
open Go.RowKit

/-- x is v, where the guard is b. -/
def isIf (g b : Bool) (v : Value) : Value → World → Prop := fun x _ => g = b → x = v
theorem stays_If (g b : Bool) (v : Value) : Stays (isIf g b v) := fun _ _ _ _ h => h
section
variable {P : Program} {a : Act} {o : Oper} {w : World}
theorem fieldA_val {t : TypeId} {x : Operand} {k : Nat} {p v : Value} (ho : o.op = .fieldAddr t x k) (hx : a.eval x = p) (h : (Instr.fieldAt t p k).run P w = .ok v w) : (execOp a.eval o).run P w = .ok (.value v) w := by
  simp [execOp, ho, hx, h, Result.andThen]
theorem cmpgeq_val {t r : TypeId} {x y : Operand} {k : IntKind} {n m : Int} (ho : o.op = .binOp .geq t x y r) (hx : a.eval x = .int k n) (hy : a.eval y = .int k m) : (execOp a.eval o).run P w = .ok (.value (.bool (decide (m ≤ n)))) w := by
  simp only [execOp, ho, hx, hy]
  simp [go_sem, eqGuard, Sem.run_pure, binOp]
theorem cmpleq_val {t r : TypeId} {x y : Operand} {k : IntKind} {n m : Int} (ho : o.op = .binOp .leq t x y r) (hx : a.eval x = .int k n) (hy : a.eval y = .int k m) : (execOp a.eval o).run P w = .ok (.value (.bool (decide (n ≤ m)))) w := by
  simp only [execOp, ho, hx, hy]
  simp [go_sem, eqGuard, Sem.run_pure, binOp]
theorem cmplss_val {t r : TypeId} {x y : Operand} {k : IntKind} {n m : Int} (ho : o.op = .binOp .lss t x y r) (hx : a.eval x = .int k n) (hy : a.eval y = .int k m) : (execOp a.eval o).run P w = .ok (.value (.bool (decide (n < m)))) w := by
  simp only [execOp, ho, hx, hy]
  simp [go_sem, eqGuard, Sem.run_pure, binOp]
theorem cmpgtr_val {t r : TypeId} {x y : Operand} {k : IntKind} {n m : Int} (ho : o.op = .binOp .gtr t x y r) (hx : a.eval x = .int k n) (hy : a.eval y = .int k m) : (execOp a.eval o).run P w = .ok (.value (.bool (decide (m < n)))) w := by
  simp only [execOp, ho, hx, hy]
  simp [go_sem, eqGuard, Sem.run_pure, binOp]
theorem cmpeql_val {t r : TypeId} {x y : Operand} {k : IntKind} {s s' : Int} (ho : o.op = .binOp .eql t x y r) (hx : a.eval x = .int k s) (hy : a.eval y = .int k s') : (execOp a.eval o).run P w = .ok (.value (.bool (s == s'))) w := eqlint_val ho hx hy
theorem cmpneq_val {t r : TypeId} {x y : Operand} {k : IntKind} {s s' : Int} (ho : o.op = .binOp .neq t x y r) (hx : a.eval x = .int k s) (hy : a.eval y = .int k s') : (execOp a.eval o).run P w = .ok (.value (.bool (s != s'))) w := by
  simp only [execOp, ho, hx, hy]
  simp [go_sem, eqGuard, Sem.run_pure, binOp]
end
end Go.Proofs.YtndjhhebmbmppaaDoor
