/- Regions that draw their order, generally: what each operation hands back as a list of facts; steps of single operations. -/
import Derived.Test.YtpjhkmdlegjdaaaDoorFlow3
import Derived.Test.YtpjhkmdlegjdaaaDoorSub
namespace Go.Proofs.YtpjhkmdlegjdaaaDoor
open Go.RowKit

/-- A fact of a value and a world that stays where the world grows. -/
def Stays (P : Value → World → Prop) : Prop := ∀ x w w', World.grownBy w w' none → P x w → P x w'
def StaysAll : List (Value → World → Prop) → Prop
  | [] => True
  | P :: r => Stays P ∧ StaysAll r
def isV (v : Value) : Value → World → Prop := fun x _ => x = v
def isB (l : List Nat) : Value → World → Prop := fun x w => Bytes w x l
def isAny : Value → World → Prop := fun _ _ => True
theorem stays_V (v : Value) : Stays (isV v) := fun _ _ _ _ h => h
theorem stays_B (l : List Nat) : Stays (isB l) := fun _ _ _ hg h => Bytes.grown h hg
theorem stays_any : Stays isAny := fun _ _ _ _ h => h
def flF (Ps : List (Value → World → Prop)) (j : Nat) : Value → World → Prop := Ps.getD j isAny
theorem flF_stays : ∀ {Ps : List (Value → World → Prop)}, StaysAll Ps → ∀ (j : Nat) (x : Value) (w w' : World), World.grownBy w w' none → flF Ps j x w → flF Ps j x w'
  | [], _, j, x, w, w', _, _ => by simp [flF, isAny]
  | P :: r, h, 0, x, w, w', hg, hx => h.1 x w w' hg hx
  | P :: r, h, j + 1, x, w, w', hg, hx => flF_stays h.2 j x w w' hg hx

section
variable {P : Program} {a : Act} {o : Oper} {w : World}
theorem conv_val {s d : TypeId} {x : Operand} {p v : Value} (ho : o.op = .convert s d x) (hx : a.eval x = p) (h : (convert s d p).run P w = .ok v w) : (execOp a.eval o).run P w = .ok (.value v) w := by
  simp [execOp, ho, hx, h, Result.andThen]
theorem pick_false {c x y : Operand} {v : Value} (ho : o.op = .pick c x y) (hc : a.eval c = .bool false) (hy : a.eval y = v) : (execOp a.eval o).run P w = .ok (.value v) w := by
  simp [execOp, ho, hc, hy, Sem.run_pure, asBool]
theorem neqstr_val {t r : TypeId} {x y : Operand} {s : ByteArray} (ho : o.op = .binOp .neq t x y r) (hx : a.eval x = .string s) (hy : a.eval y = .string s) : (execOp a.eval o).run P w = .ok (.value (.bool false)) w := by
  simp only [execOp, ho, hx, hy]
  simp [eqGuard, Sem.run_pure, binOp, Op.stringOp]
theorem neqint_val {t r : TypeId} {x y : Operand} {k : IntKind} {s : Int} (ho : o.op = .binOp .neq t x y r) (hx : a.eval x = .int k s) (hy : a.eval y = .int k s) : (execOp a.eval o).run P w = .ok (.value (.bool false)) w := by
  simp only [execOp, ho, hx, hy]
  simp [go_sem, eqGuard, Sem.run_pure, binOp]
theorem eqlint_val {t r : TypeId} {x y : Operand} {k : IntKind} {s s' : Int} (ho : o.op = .binOp .eql t x y r) (hx : a.eval x = .int k s) (hy : a.eval y = .int k s') : (execOp a.eval o).run P w = .ok (.value (.bool (s == s'))) w := by
  simp only [execOp, ho, hx, hy]
  simp [go_sem, eqGuard, Sem.run_pure, binOp]
theorem not_val {t : TypeId} {x : Operand} {b : Bool} (ho : o.op = .unOp .not t x) (hx : a.eval x = .bool b) : (execOp a.eval o).run P w = .ok (.value (.bool (!b))) w := by
  simp only [execOp, ho, hx]
  simp [go_sem]
theorem quoint_val {t r : TypeId} {x y : Operand} {n m : Int} (ho : o.op = .binOp .quo t x y r) (hx : a.eval x = .int .i64 n) (hy : a.eval y = .int .i64 m) (hm : m ≠ 0) : (execOp a.eval o).run P w = .ok (.value (.int .i64 (IntKind.i64.wrap (n.tdiv m)))) w := by
  simp only [execOp, ho, hx, hy]
  simp [go_sem, eqGuard, Sem.run_pure, binOp, hm]
theorem remint_val {t r : TypeId} {x y : Operand} {n m : Int} (ho : o.op = .binOp .rem t x y r) (hx : a.eval x = .int .i64 n) (hy : a.eval y = .int .i64 m) (hm : m ≠ 0) : (execOp a.eval o).run P w = .ok (.value (.int .i64 (n.tmod m))) w := by
  simp only [execOp, ho, hx, hy]
  simp [go_sem, eqGuard, Sem.run_pure, binOp, hm]
theorem addint_val {t r : TypeId} {x y : Operand} {k : IntKind} {n m : Int} (ho : o.op = .binOp .add t x y r) (hx : a.eval x = .int k n) (hy : a.eval y = .int k m) : (execOp a.eval o).run P w = .ok (.value (.int k (k.wrap (n + m)))) w := by
  simp only [execOp, ho, hx, hy]
  simp [go_sem, eqGuard, Sem.run_pure, binOp]
theorem addstr_val {t r : TypeId} {x y : Operand} {n m : ByteArray} (ho : o.op = .binOp .add t x y r) (hx : a.eval x = .string n) (hy : a.eval y = .string m) (hl : n.size + m.size ≤ 1000) : (execOp a.eval o).run P w = .ok (.value (.string (n ++ m))) w := by
  simp only [execOp, ho, hx, hy]
  simp [go_sem, eqGuard, Sem.run_pure, binOp, Op.stringOp]
  omega
theorem neqnil_val {t r : TypeId} {x : Operand} (ho : o.op = .binOp .neq t x (.const .nilIface) r) (hx : a.eval x = .nilIface) (h : ∀ w, (do eqGuard .neq t x (.const .nilIface) .nilIface .nilIface; binOp .neq t .nilIface .nilIface : Sem Value).run P w = .ok (.bool false) w) : (execOp a.eval o).run P w = .ok (.value (.bool false)) w := by
  have hc : a.eval (.const .nilIface) = .nilIface := rfl
  have h' := h w
  simp only [execOp, ho, hx, hc]
  rw [Sem.run_bind, h']
  simp [Result.andThen, Sem.run_pure]
theorem len_val {x : Operand} {t e : TypeId} {ad : Option Addr} {n c : Nat} (hu : P.underlying t = some (.slice e)) (ho : o.op = .call { callee := .builtin .len, args := #[x], argTypes := #[t] }) (hx : a.eval x = .slice ad n c) : (execOp a.eval o).run P w = .ok (.value (.int .i64 n)) w := by
  simp only [execOp, ho, resolve, List.map_toArray, List.map_cons, List.map_nil, hx]
  simp [go_sem, invoke, Builtin.len_, run_underlying hu, Result.andThen, Sem.run_bind, Sem.run_pure]
end
theorem nilNe (x : Operand) (w : World) : (do eqGuard .neq 25 x (.const .nilIface) .nilIface .nilIface; binOp .neq 25 .nilIface .nilIface : Sem Value).run Tryd.prog w = .ok (.bool false) w := by simp [go_sem]
section
variable {a : Act} {us : Nat → Value} {D : List Nat} {d : Nat}
theorem fill_nil : fill a [] us = a := by
  obtain ⟨⟨l⟩, e⟩ := a
  unfold fill
  congr 1
  congr 1
  refine List.ext_getElem (by simp) fun i h1 h2 => ?_
  simp
theorem fill_cons : fill a (d :: D) us = (fill a D us).put (some d) (us d) := by
  obtain ⟨⟨l⟩, e⟩ := a
  show (⟨_, e⟩ : Act) = ⟨((l.mapIdx fun k x => if D.contains k then us k else x).toArray).setIfInBounds d (us d), e⟩
  congr 1
  rw [List.setIfInBounds_toArray]
  congr 1
  refine List.ext_getElem (by simp only [List.length_set, List.length_mapIdx]) fun i h1 h2 => ?_
  simp only [List.getElem_set, List.getElem_mapIdx, List.contains_cons]
  by_cases hi : d = i
  · subst hi; simp
  · rw [if_neg hi]
    have : (i == d) = false := by simp; exact fun h => hi h.symm
    rw [this, Bool.false_or]
end
def regionsIn : Code → List Code
  | .seq a b => regionsIn a ++ regionsIn b
  | .cond _ a b => regionsIn a ++ regionsIn b
  | .block _ c => regionsIn c
  | .loop c => regionsIn c
  | .scope c => regionsIn c
  | .region i o d => [.region i o d]
  | _ => []
/-- The region of that number. -/
def regionIn (c : Option Code) (k : Nat) : Code := (((c.map regionsIn).getD []).find? fun r => match r with | .region i _ _ => i == k | _ => false).getD .skip

section
variable {P : Program} {ops : Array Oper} {md : Region.Mode} {C : World → Prop} {S : World → World → Prop} {F : Nat → Value → World → Prop} {a0 : Act} {D : List Nat} {j : Nat} {o : Oper}
theorem wants_not {us : Nat → Value} {k d : Nat} {b : Bool} (h : o.guard = some (k, b)) (hk : (ops[k]?).bind (·.dst) = some d) (hd : D.contains d = true) (hl : d < a0.tmps.size) (hu : us d = .bool (!b)) : ¬ Wants ops o a0 D us := by
  unfold Wants Region.wanted
  rw [h]
  simp [yielded, hk, fill_at hd hl, hu]
/-- An operation that is passed over. -/
theorem flow_skip (hw : ∀ us w, C w → (∀ k, k ∈ depsOf md o → F k (us (dstOf ops k)) w) → ¬ Wants ops o a0 D us)
    (hS : ∀ w, S w w) (hF : ∀ v w, F j v w) : FlowAt P md ops C S F a0 D j o := by
  intro us w hC hd' Q hQ
  unfold wpList
  rw [if_neg (show ¬ Region.wanted o (yielded ops (fill a0 D us).tmps) = true from hw us w hC hd')]
  exact hQ undef w (hS w) (hF _ _)
end
end Go.Proofs.YtpjhkmdlegjdaaaDoor
