import Derived.Test.YtgdnndapmcjoeaaDoorKe02
import Derived.Test.YtgdnndapmcjoeaaDoorKe06
import Derived.Laws.StructEq
import Derived.WalkKit
namespace Go.Proofs.YtgdnndapmcjoeaaDoor
open Go.RowKit
section
variable {P : Program}
end
end Go.Proofs.YtgdnndapmcjoeaaDoor
namespace Go.Proofs.YtgdnndapmcjoeaaDoor
open Go Go.RowKit
section
variable {P : Program} {a : Act} {o : Oper} {w : World}
theorem move_val {x : Operand} {v : Value} (ho : o.op = .move x) (hx : a.eval x = v) : (execOp a.eval o).run P w = .ok (.value v) w := by
  simp [execOp, ho, hx, Sem.run_pure]
theorem load_val {ty t : TypeId} {x : Operand} {b : Nat} {cs : Array Value} {fr : Nat × Nat} {d : TypeDesc} (ho : o.op = .load ty x) (hx : a.eval x = .pointer (some ⟨b, 0, none⟩)) (h : w.heap[b]? = some (.cells cs t fr))
    (hu : P.underlying ty = some d) (hd : d.isRow = true) (hi : (P.info? ty).map (·.size) = some cs.size) : (execOp a.eval o).run P w = .ok (.value (.agg cs)) w := by
  have := run_loadVar_mid (P := P) w b 0 ty cs.toList d (range_all h) hu hd (by simpa using hi)
  simp only [Array.toArray_toList] at this
  simp [execOp, ho, hx, Instr.loadAt, Instr.sureAddr, Result.andThen_ok, this]
theorem slicearr_val {t e n : Nat} {x : Operand} {b : Nat} (ho : o.op = .slice t x none none none) (hx : a.eval x = .pointer (some ⟨b, 0, none⟩)) (hu : P.underlying t = some (.array n e)) (hs : ∀ w, (sizeOf e).run P w = .ok 1 w) :
    (execOp a.eval o).run P w = .ok (.value (.slice (some ⟨b, 0, none⟩) n n)) w := by
  simp only [execOp, ho, hx, Option.map_none]
  simp [Instr.sliceAt, run_underlying hu, Sem.run_bind, Result.andThen, hs, go_sem]
theorem call_enter {f : FuncId} {xs : Array Operand} {ts : Array TypeId} (ho : o.op = .call { callee := .value (.func f), args := xs, argTypes := ts }) (hc : ∀ args w, (callFunc f args).run P w = .ok (.enter f args) w) :
    (execOp a.eval o).run P w = .ok (.enter f (xs.map a.eval)) w := by
  simp only [execOp, ho]
  rw [← hc]
  simp [resolve, invoke, Act.eval, Deferred.ofValue]
theorem assign_val {x : Operand} {v : Value} (ho : o.op = .assign x) (hx : a.eval x = v) : (execOp a.eval o).run P w = .ok (.value v) w := by
  simp [execOp, ho, hx, Sem.run_pure]
theorem fill_size (a0 : Act) (D : List Nat) (us : Nat → Value) : (fill a0 D us).tmps.size = a0.tmps.size := by simp [fill]
theorem put_get {d : Nat} {v : Value} (h : d < a.tmps.size) : (a.put (some d) v).tmps.getD d undef = v := by
  show (a.tmps.setIfInBounds d v).getD d undef = v
  simp [h]
end
end Go.Proofs.YtgdnndapmcjoeaaDoor
