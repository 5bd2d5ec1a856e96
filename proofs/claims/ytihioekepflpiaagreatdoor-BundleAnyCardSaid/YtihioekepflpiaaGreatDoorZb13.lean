import Derived.Test.YtihioekepflpiaaGreatDoorZb00
import Derived.Test.YtihioekepflpiaaGreatDoorZb12
import Derived.Laws.StructEq
import Derived.WalkKit
set_option linter.unusedVariables false
set_option linter.unusedSimpArgs false
namespace Go.Proofs.YtihioekepflpiaaGreatDoor
open Go.RowKit
section
variable {P : Program}
end
end Go.Proofs.YtihioekepflpiaaGreatDoor
namespace Go.Proofs.YtihioekepflpiaaGreatDoor
open Go Go.RowKit
section
variable {P : Program} {a : Act} {o : Oper} {w : World}
theorem move_val {x : Operand} {v : Value} (ho : o.op = .move x) (hx : a.eval x = v) : (execOp a.eval o).run P w = .ok (.value v) w := by
  simp [execOp, ho, hx, Sem.run_pure]
theorem load_val {ty t : TypeId} {x : Operand} {b : Nat} {cs : Array Value} {fr : Nat × Nat} {d : TypeDesc} (ho : o.op = .load ty x) (hx : a.eval x = .pointer (some ⟨b, 0, none⟩)) (h : w.heap[b]? = some (.cells cs t fr))
    (hu : P.underlying ty = some d) (hd : d.isRow = true) (hi : (P.info? ty).map (·.size) = some cs.size) : (execOp a.eval o).run P w = .ok (.value (.agg cs)) w := by
  have := run_loadVar_mid (P := P) w b 0 ty cs.toList d (range_all h) hu hd (by simpa using hi)
  simp only [Array.toArray_toList] at this
  simp [execOp, ho, hx, Instr.loadAt, Instr.sureAddr, Result.andThen_ok, this]
theorem call_enter {f : FuncId} {xs : Array Operand} {ts : Array TypeId} (ho : o.op = .call { callee := .value (.func f), args := xs, argTypes := ts }) (hc : ∀ args w, (callFunc f args).run P w = .ok (.enter f args) w) :
    (execOp a.eval o).run P w = .ok (.enter f (xs.map a.eval)) w := by
  simp only [execOp, ho]
  rw [← hc]
  simp [resolve, invoke, Act.eval, Deferred.ofValue]
theorem wpList_last {ops : Array Oper} {Q : Exit → Act → World → Prop} {v : Value} (hg : o.guard = none) (hr : (execOp a.eval o).run P w = .ok (.value v) w) (h : Q .normal (a.put o.dst v) w) : wpList P ops Q [o] a w := by
  refine wpList_plain hg fun K hK => ?_
  unfold Oper.wp
  rw [hr]
  exact hK _ _ h
end
end Go.Proofs.YtihioekepflpiaaGreatDoor
