/- Steps of single operations: an element's address, a cell read, a product. -/
import Derived.Test.YtpjhkmdlegjdaaaDoorFl4
import Derived.Test.YtpjhkmdlegjdaaaDoorIn1
namespace Go.Proofs.YtpjhkmdlegjdaaaDoor
open Go.RowKit
section
variable {P : Program} {a : Act} {o : Oper} {w : World}
theorem mulint_val {t r : TypeId} {x y : Operand} {k : IntKind} {n m : Int} (ho : o.op = .binOp .mul t x y r) (hx : a.eval x = .int k n) (hy : a.eval y = .int k m) : (execOp a.eval o).run P w = .ok (.value (.int k (k.wrap (n * m)))) w := by
  simp only [execOp, ho, hx, hy]
  simp [go_sem, eqGuard, Sem.run_pure, binOp]
theorem loadc_val {t : TypeId} {x : Operand} {p v : Value} (ho : o.op = .load t x) (hx : a.eval x = p) (h : (Instr.loadAt t p).run P w = .ok v w) : (execOp a.eval o).run P w = .ok (.value v) w := by
  simp [execOp, ho, hx, h, Result.andThen]
theorem idx_val {t : TypeId} {x y : Operand} {u v p : Value} (ho : o.op = .indexAddr t x y) (hx : a.eval x = u) (hy : a.eval y = v) (h : (Instr.indexAt t u v).run P w = .ok p w) : (execOp a.eval o).run P w = .ok (.value p) w := by
  simp [execOp, ho, hx, hy, h, Result.andThen]
end
theorem eqlnil_val {P : Program} {a : Act} {o : Oper} {w : World} {t r : TypeId} {x : Operand} (ho : o.op = .binOp .eql t x (.const .nilIface) r) (hx : a.eval x = .nilIface) (h : ∀ w, (do eqGuard .eql t x (.const .nilIface) .nilIface .nilIface; binOp .eql t .nilIface .nilIface : Sem Value).run P w = .ok (.bool true) w) : (execOp a.eval o).run P w = .ok (.value (.bool true)) w := by
  have hc : a.eval (.const .nilIface) = .nilIface := rfl
  have h' := h w
  simp only [execOp, ho, hx, hc]
  rw [Sem.run_bind, h']
  simp [Result.andThen, Sem.run_pure]
theorem nilEq (x : Operand) (w : World) : (do eqGuard .eql 25 x (.const .nilIface) .nilIface .nilIface; binOp .eql 25 .nilIface .nilIface : Sem Value).run Tryd.prog w = .ok (.bool true) w := by simp [go_sem]
theorem idxI (w : World) (sb so n c : Nat) (i : Nat) (h : i < n) : (Instr.indexAt 23 (.slice (some ⟨sb, so, none⟩) n c) (.int .i64 (i : Int))).run Tryd.prog w = .ok (.pointer (some ⟨sb, so + i, none⟩)) w := by
  have h1 : (0 : Int) ≤ (i : Int) ∧ (i : Int) < (n : Int) := ⟨by omega, by omega⟩
  simp [go_sem, h1]
theorem loadI {w : World} {ad : Addr} {z : Int} (h : w.cell? ad = some (.int .i64 z)) : (Instr.loadAt 3 (.pointer (some ad))).run Tryd.prog w = .ok (.int .i64 z) w := by simp [go_sem, h]
end Go.Proofs.YtpjhkmdlegjdaaaDoor
