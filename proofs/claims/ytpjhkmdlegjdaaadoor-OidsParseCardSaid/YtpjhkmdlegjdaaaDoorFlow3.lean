/- Arrays of bytes held against themselves. What single operations hand back. It names no program. -/
import Derived.Test.YtpjhkmdlegjdaaaDoorByt
import Derived.Laws.StructEq
import Derived.WalkKit
import Derived.Test.YtpjhkmdlegjdaaaDoorFlow2
namespace Go.Proofs.YtpjhkmdlegjdaaaDoor
open Go.RowKit
section
variable {P : Program}

theorem run_eqArr_same (w : World) (d t e n : Nat) (cs : Array Value) (hu : P.underlying t = some (.array n e)) (he : P.underlying e = some (.int .u8)) (hagg : ∀ w, (isAgg e).run P w = .ok false w) (hsz : ∀ w, (sizeOf e).run P w = .ok 1 w)
    (hcs : ∀ i, i < n → ∃ x, cs[i]? = some (.int .u8 x)) : (Op.equalIn (d + 2) t (.agg cs) (.agg cs)).run P w = .ok true w := by
  have hp : ∀ i, i < n → ∃ x, ∀ w, (part e cs i).run P w = .ok (.int .u8 x) w := fun i hi => by
    obtain ⟨x, hx⟩ := hcs i hi
    exact ⟨x, fun w => by simp [part, Sem.run_bind, hagg, hx, Result.andThen]⟩
  rw [Op.equalIn]
  simp only [Sem.run_bind, run_underlying hu, Result.andThen_ok, hsz, Std.Legacy.Range.forIn_eq_forIn_range', Std.Legacy.Range.size]
  have key : ∀ (l : List Nat), (∀ i ∈ l, i < n) → ∀ w, (forIn l ((none, ()) : Option Bool × Unit) fun i _ => do
      let a ← part e cs (i * 1)
      let b ← part e cs (i * 1)
      let r ← Op.equalIn (d + 1) e a b
      if (!r) = true then pure (ForInStep.done (some false, ())) else pure (ForInStep.yield (none, ()))).run P w = .ok (none, ()) w := by
    intro l
    induction l with
    | nil => intro _ w; rfl
    | cons i l ih =>
      intro hl w
      obtain ⟨x, hx⟩ := hp i (hl i (by simp))
      simp only [List.forIn_cons, Sem.run_bind, Nat.mul_one, hx, Result.andThen_ok, run_equalIn_int w d e .u8 .u8 x x he, beq_self_eq_true, Bool.not_true, Bool.false_eq_true, if_false, Sem.run_pure]
      simpa using ih (fun j hj => hl j (by simp [hj])) w
  have e1 : (n - 0 + 1 - 1) / 1 = n := by rw [Nat.div_one]; omega
  rw [e1]
  have := key (List.range' 0 n) (fun i hi => by have := List.mem_range'_1.1 hi; omega) w
  rw [this]
  rfl

/-- '==' and '!=' of arrays of bytes, one and the same. -/
theorem eql_bytes_same (w : World) (t e n : Nat) (l : List Nat) (hl : l.length = n) (hu : P.underlying t = some (.array n e)) (he : P.underlying e = some (.int .u8)) (hagg : ∀ w, (isAgg e).run P w = .ok false w) (hsz : ∀ w, (sizeOf e).run P w = .ok 1 w) :
    (binOp .eql t (.agg (bytesV l)) (.agg (bytesV l))).run P w = .ok (.bool true) w ∧ (binOp .neq t (.agg (bytesV l)) (.agg (bytesV l))).run P w = .ok (.bool false) w := by
  have h := run_eqArr_same w 9998 t e n (bytesV l) hu he hagg hsz (fun i hi => ⟨_, bytesV_at l i (by omega)⟩)
  exact ⟨by rw [run_eql_struct, h]; rfl, by rw [run_neq_struct, h]; rfl⟩
end
end Go.Proofs.YtpjhkmdlegjdaaaDoor
namespace Go.Proofs.YtpjhkmdlegjdaaaDoor
open Go Go.RowKit
section
variable {P : Program} {a : Act} {o : Oper} {w : World}

theorem move_val {x : Operand} {v : Value} (ho : o.op = .move x) (hx : a.eval x = v) : (execOp a.eval o).run P w = .ok (.value v) w := by
  simp [execOp, ho, hx, Sem.run_pure]
theorem load_val {ty t : TypeId} {x : Operand} {b : Nat} {cs : Array Value} {fr : Nat × Nat} {d : TypeDesc} (ho : o.op = .load ty x) (hx : a.eval x = .pointer (some ⟨b, 0, none⟩)) (h : w.heap[b]? = some (.cells cs t fr))
    (hu : P.underlying ty = some d) (hd : d.isRow = true) (hi : (P.info? ty).map (·.size) = some cs.size) : (execOp a.eval o).run P w = .ok (.value (.agg cs)) w := by
  have := run_loadVar_mid (P := P) w b 0 ty cs.toList d (range_all h) hu hd (by simpa using hi)
  simp only [Array.toArray_toList] at this
  simp [execOp, ho, hx, Instr.loadAt, Instr.sureAddr, Result.andThen_ok, this]
theorem pick_true {c x y : Operand} {v : Value} (ho : o.op = .pick c x y) (hc : a.eval c = .bool true) (hx : a.eval x = v) : (execOp a.eval o).run P w = .ok (.value v) w := by
  simp [execOp, ho, hc, hx, Sem.run_pure, asBool]
theorem eqlagg_val {t r : TypeId} {x y : Operand} {cs : Array Value} (ho : o.op = .binOp .eql t x y r) (hx : a.eval x = .agg cs) (hy : a.eval y = .agg cs) (hg : P.eqGuardType P.depth t = false) (h : (binOp .eql t (.agg cs) (.agg cs)).run P w = .ok (.bool true) w) :
    (execOp a.eval o).run P w = .ok (.value (.bool true)) w := by
  simp [execOp, ho, hx, hy, Sem.run_bind, run_eqGuard_agg w .eql t x y cs cs hg, h, Result.andThen]
theorem eqlstr_val {t r : TypeId} {x y : Operand} {s : ByteArray} (ho : o.op = .binOp .eql t x y r) (hx : a.eval x = .string s) (hy : a.eval y = .string s) : (execOp a.eval o).run P w = .ok (.value (.bool true)) w := by
  simp only [execOp, ho, hx, hy]
  simp [eqGuard, Sem.run_pure, binOp, Op.stringOp]
theorem slicearr_val {t e n : Nat} {x : Operand} {b : Nat} (ho : o.op = .slice t x none none none) (hx : a.eval x = .pointer (some ⟨b, 0, none⟩)) (hu : P.underlying t = some (.array n e)) (hs : ∀ w, (sizeOf e).run P w = .ok 1 w) :
    (execOp a.eval o).run P w = .ok (.value (.slice (some ⟨b, 0, none⟩) n n)) w := by
  simp only [execOp, ho, hx, Option.map_none]
  simp [Instr.sliceAt, run_underlying hu, Sem.run_bind, Result.andThen, hs, go_sem]
theorem call_enter {f : FuncId} {xs : Array Operand} {ts : Array TypeId} (ho : o.op = .call { callee := .value (.func f), args := xs, argTypes := ts }) (hc : ∀ args w, (callFunc f args).run P w = .ok (.enter f args) w) :
    (execOp a.eval o).run P w = .ok (.enter f (xs.map a.eval)) w := by
  simp only [execOp, ho]
  rw [← hc]
  simp [resolve, invoke, Act.eval, Deferred.ofValue]
theorem build1_val {t e : TypeId} {x : Operand} {v : Value} (ho : o.op = .buildSlice t 1 #[(0, x)]) (hx : a.eval x = v) (hb : (Instr.buildSlice t 1 #[(0, v)]).run P w = .ok (.slice (some ⟨w.heap.size, 0, none⟩) 1 1) (w.alloc (.cells #[v] e))) :
    (execOp a.eval o).run P w = .ok (.value (.slice (some ⟨w.heap.size, 0, none⟩) 1 1)) (w.alloc (.cells #[v] e)) := by
  simp only [execOp, ho, List.map_toArray, List.map_cons, List.map_nil, hx]
  simp [Result.andThen, hb]
theorem assign_val {x : Operand} {v : Value} (ho : o.op = .assign x) (hx : a.eval x = v) : (execOp a.eval o).run P w = .ok (.value v) w := by
  simp [execOp, ho, hx, Sem.run_pure]
theorem wpList_last {ops : Array Oper} {Q : Exit → Act → World → Prop} {v : Value} (hg : o.guard = none) (hr : (execOp a.eval o).run P w = .ok (.value v) w) (h : Q .normal (a.put o.dst v) w) : wpList P ops Q [o] a w := by
  refine wpList_plain hg fun K hK => ?_
  unfold Oper.wp
  rw [hr]
  exact hK _ _ h
theorem fill_size (a0 : Act) (D : List Nat) (us : Nat → Value) : (fill a0 D us).tmps.size = a0.tmps.size := by simp [fill]
theorem put_get {d : Nat} {v : Value} (h : d < a.tmps.size) : (a.put (some d) v).tmps.getD d undef = v := by
  show (a.tmps.setIfInBounds d v).getD d undef = v
  simp [h]
end
end Go.Proofs.YtpjhkmdlegjdaaaDoor
