/- Subjects held against each other. -/
import Derived.Test.YtepjjgplnmkjgaaDoorNu3
import Derived.Test.YtepjjgplnmkjgaaDoorFl9
namespace Go.Proofs.YtepjjgplnmkjgaaDoor
open Go.RowKit
set_option linter.unusedVariables false
theorem eqSb (x y : Operand) (k1 k2 : Int) (s1 s2 n1 n2 : ByteArray) (w : World) : (do eqGuard .eql 27 x y (.agg #[.int .i64 k1, .string s1, .string n1]) (.agg #[.int .i64 k2, .string s2, .string n2]); binOp .eql 27 (.agg #[.int .i64 k1, .string s1, .string n1]) (.agg #[.int .i64 k2, .string s2, .string n2]) : Sem Value).run Tryd.prog w = .ok (.bool (decide (k1 = k2) && (decide (s1 = s2) && decide (n1 = n2)))) w := by
  have h1 : s1.toList = s2.toList ↔ s1 = s2 := ⟨Na.toList_inj, fun h => by rw [h]⟩
  have h2 : n1.toList = n2.toList ↔ n1 = n2 := ⟨Na.toList_inj, fun h => by rw [h]⟩
  simp [go_sem]
  by_cases e1 : k1 = k2 <;> by_cases e2 : s1 = s2 <;> by_cases e3 : n1 = n2 <;> simp [h1, h2, e1, e2, e3]
theorem eqSb_val {o : Oper} {a : Act} {w : World} {r : TypeId} {x y : Operand} {u v : Value} {b : Bool} (ho : o.op = .binOp .eql 27 x y r) (hx : a.eval x = u) (hy : a.eval y = v)
    (h : (do eqGuard .eql 27 x y u v; binOp .eql 27 u v : Sem Value).run Tryd.prog w = .ok (.bool b) w) : (execOp a.eval o).run Tryd.prog w = .ok (.value (.bool b)) w := by
  simp only [execOp, ho, hx, hy]
  rw [Sem.run_bind, h]
  simp [Result.andThen, Sem.run_pure]
end Go.Proofs.YtepjjgplnmkjgaaDoor
