/- TlvPut's two regions that draw their order. -/
import Derived.Test.YtndgbhgalablfaaDoorTp4
import Derived.Test.YtndgbhgalablfaaDoorKp
import Derived.Test.YtndgbhgalablfaaDoorFlow3
namespace Go.Proofs.YtndgbhgalablfaaDoor
open Go.RowKit

section
variable {P : Program} {a : Act} {o : Oper} {w : World}
theorem field_val {t : TypeId} {x : Operand} {k : Nat} {p v : Value} (ho : o.op = .fieldAddr t x k) (hx : a.eval x = p) (h : (Instr.fieldAt t p k).run P w = .ok v w) : (execOp a.eval o).run P w = .ok (.value v) w := by
  simp [execOp, ho, hx, h, Result.andThen]
theorem load1_val {t : TypeId} {x : Operand} {p v : Value} (ho : o.op = .load t x) (hx : a.eval x = p) (h : (Instr.loadAt t p).run P w = .ok v w) : (execOp a.eval o).run P w = .ok (.value v) w := by
  simp [execOp, ho, hx, h, Result.andThen]
theorem conv_val {s d : TypeId} {x : Operand} {p v : Value} (ho : o.op = .convert s d x) (hx : a.eval x = p) (h : (convert s d p).run P w = .ok v w) : (execOp a.eval o).run P w = .ok (.value v) w := by
  simp [execOp, ho, hx, h, Result.andThen]
theorem build2_val {t : TypeId} {x y : Operand} {p q v : Value} (ho : o.op = .build t #[(0, x), (1, y)]) (hx : a.eval x = p) (hy : a.eval y = q) (h : (Instr.build t #[(0, p), (1, q)]).run P w = .ok v w) : (execOp a.eval o).run P w = .ok (.value v) w := by
  simp [execOp, ho, hx, hy, h, Result.andThen]
theorem alloc_val {t : TypeId} {v : Value} {w' : World} (ho : o.op = .alloc t) (h : (Instr.alloc t true (.tuple #[])).run P w = .ok v w') : (execOp a.eval o).run P w = .ok (.value v) w' := by
  simp [execOp, ho, h, Result.andThen]
theorem pick_false {c x y : Operand} {v : Value} (ho : o.op = .pick c x y) (hc : a.eval c = .bool false) (hy : a.eval y = v) : (execOp a.eval o).run P w = .ok (.value v) w := by
  simp [execOp, ho, hc, hy, Sem.run_pure, asBool]
theorem neqstr_val {t r : TypeId} {x y : Operand} {s : ByteArray} (ho : o.op = .binOp .neq t x y r) (hx : a.eval x = .string s) (hy : a.eval y = .string s) : (execOp a.eval o).run P w = .ok (.value (.bool false)) w := by
  simp only [execOp, ho, hx, hy]
  simp [eqGuard, Sem.run_pure, binOp, Op.stringOp]
theorem neqint_val {t r : TypeId} {x y : Operand} {k : IntKind} {s : Int} (ho : o.op = .binOp .neq t x y r) (hx : a.eval x = .int k s) (hy : a.eval y = .int k s) : (execOp a.eval o).run P w = .ok (.value (.bool false)) w := by
  simp only [execOp, ho, hx, hy]
  simp [go_sem, eqGuard, Sem.run_pure, binOp]
theorem neqnil_val {t r : TypeId} {x : Operand} (ho : o.op = .binOp .neq t x (.const .nilIface) r) (hx : a.eval x = .nilIface) (h : ∀ w, (do eqGuard .neq t x (.const .nilIface) .nilIface .nilIface; binOp .neq t .nilIface .nilIface : Sem Value).run P w = .ok (.bool false) w) : (execOp a.eval o).run P w = .ok (.value (.bool false)) w := by
  have hc : a.eval (.const .nilIface) = .nilIface := rfl
  have h' := h w
  simp only [execOp, ho, hx, hc]
  rw [Sem.run_bind, h']
  simp [Result.andThen, Sem.run_pure]
end
section
variable {a : Act} {us : Nat → Value} {D : List Nat} {d : Nat}
theorem fill_nil : fill a [] us = a := by
  obtain ⟨⟨l⟩, e⟩ := a
  unfold fill
  congr 1
  congr 1
  refine List.ext_getElem (by simp) fun i h1 h2 => ?_
  simp
theorem fill_cons : fill a (d :: D) us = (fill a D us).put (some d) (us d) := by
  obtain ⟨⟨l⟩, e⟩ := a
  show (⟨_, e⟩ : Act) = ⟨((l.mapIdx fun k x => if D.contains k then us k else x).toArray).setIfInBounds d (us d), e⟩
  congr 1
  rw [List.setIfInBounds_toArray]
  congr 1
  refine List.ext_getElem (by simp only [List.length_set, List.length_mapIdx]) fun i h1 h2 => ?_
  simp only [List.getElem_set, List.getElem_mapIdx, List.contains_cons]
  by_cases hi : d = i
  · subst hi; simp
  · rw [if_neg hi]
    have : (i == d) = false := by simp; exact fun h => hi h.symm
    rw [this, Bool.false_or]
end
def regionsIn : Code → List Code
  | .seq a b => regionsIn a ++ regionsIn b
  | .cond _ a b => regionsIn a ++ regionsIn b
  | .block _ c => regionsIn c
  | .loop c => regionsIn c
  | .scope c => regionsIn c
  | .region i o d => [.region i o d]
  | _ => []
/-- The region of that number. -/
def regionIn (c : Option Code) (k : Nat) : Code := (((c.map regionsIn).getD []).find? fun r => match r with | .region i _ _ => i == k | _ => false).getD .skip
noncomputable def putRegion5 : Code := regionIn Tryd.f5.body 5
noncomputable def putRegion13 : Code := regionIn Tryd.f5.body 13

/-- The element that is put: its body a copy with marked room. -/
def InAt (W : World) (_t : Int) (B : List Nat) (x : Value) (w : World) : Prop := ∃ gB c, x = .slice (some ⟨gB, 0, none⟩) B.length c ∧ B.length + 6 ≤ c ∧ c ≤ maxLen ∧ W.heap.size ≤ gB ∧ (∃ cur fr, w.heap[gB]? = some (.cells cur 5 fr)) ∧ Room w gB B
theorem InAt.stays {W w w' : World} {t : Int} {B : List Nat} {x : Value} (hg : w.grownBy w' none) (h : InAt W t B x w) : InAt W t B x w' := by
  obtain ⟨gB, c, h1, h2, h3, h4, ⟨cur, fr, h5⟩, h6⟩ := h
  exact ⟨gB, c, h1, h2, h3, h4, ⟨cur, fr, (hg.block _ (blk_lt h5) (by simp)).trans h5⟩, h6.grown (blk_lt h5) hg (by simp)⟩
def p5F (W : World) (t : Int) (v : Value) (g : Nat) (B : List Nat) (j : Nat) (x : Value) (w : World) : Prop :=
  if j = 4 then InAt W t B x w else if j = 5 then ∃ y, x = .agg #[.int .i64 t, y] ∧ InAt W t B y w
  else if j = 6 then ∃ g5, x = .pointer (some ⟨g5, 0, none⟩) ∧ W.heap.size ≤ g5 ∧ w.heap[g5]? = some (.cells #[.int .i64 0, .slice none 0 0] 46 (0, 0))
  else x = [Value.pointer (some ⟨g, 0, none⟩), .int .i64 t, .pointer (some ⟨g, 1, none⟩), v].getD j undef
theorem p5F_stays {W : World} {t : Int} {v : Value} {g : Nat} {B : List Nat} {j : Nat} {x : Value} {w w' : World} (hg : w.grownBy w' none) (h : p5F W t v g B j x w) : p5F W t v g B j x w' := by
  unfold p5F at h ⊢
  by_cases h4 : j = 4
  · rw [if_pos h4] at h ⊢; exact h.stays hg
  · rw [if_neg h4] at h ⊢
    by_cases h5 : j = 5
    · rw [if_pos h5] at h ⊢
      obtain ⟨y, h1, h2⟩ := h
      exact ⟨y, h1, h2.stays hg⟩
    · rw [if_neg h5] at h ⊢
      by_cases h6 : j = 6
      · rw [if_pos h6] at h ⊢
        obtain ⟨g5, h1, h2, h3⟩ := h
        exact ⟨g5, h1, h2, (hg.block _ (blk_lt h3) (by simp)).trans h3⟩
      · rw [if_neg h6] at h ⊢; exact h
def p13F (W : World) (E : List Nat) (vs : List Value) (j : Nat) (x : Value) (w : World) : Prop := if j = 9 then FrW W w x E else x = vs.getD j undef
theorem p13F_stays {W : World} {E : List Nat} {vs : List Value} {j : Nat} {x : Value} {w w' : World} (hg : w.grownBy w' none) (h : p13F W E vs j x w) : p13F W E vs j x w' := by
  unfold p13F at h ⊢
  by_cases h9 : j = 9
  · rw [if_pos h9] at h ⊢; exact ⟨grown_trans h.grown hg, h.own.kept hg (Classical.em _)⟩
  · rw [if_neg h9] at h ⊢; exact h

theorem fieldEl0 (g : Nat) (w : World) : (Instr.fieldAt 46 (.pointer (some ⟨g, 0, none⟩)) 0).run Tryd.prog w = .ok (.pointer (some ⟨g, 0, none⟩)) w := by simp [go_sem]
theorem fieldEl1 (g : Nat) (w : World) : (Instr.fieldAt 46 (.pointer (some ⟨g, 0, none⟩)) 1).run Tryd.prog w = .ok (.pointer (some ⟨g, 1, none⟩)) w := by simp [go_sem]
theorem loadEl0 {g : Nat} {w : World} {t : Int} (h : w.cell? ⟨g, 0, none⟩ = some (.int .i64 t)) : (Instr.loadAt 3 (.pointer (some ⟨g, 0, none⟩))).run Tryd.prog w = .ok (.int .i64 t) w := by simp [go_sem, h]
theorem loadEl1 {g : Nat} {w : World} {a : Option Addr} {n c : Nat} (h : w.cell? ⟨g, 1, none⟩ = some (.slice a n c)) : (Instr.loadAt 22 (.pointer (some ⟨g, 1, none⟩))).run Tryd.prog w = .ok (.slice a n c) w := by simp [go_sem, h]
theorem buildEl (t : Int) (a : Option Addr) (n c : Nat) (w : World) : (Instr.build 46 #[(0, .int .i64 t), (1, .slice a n c)]).run Tryd.prog w = .ok (.agg #[.int .i64 t, .slice a n c]) w := by simp [go_sem]
theorem allocEl (w : World) : (Instr.alloc 46 true (.tuple #[])).run Tryd.prog w = .ok (.pointer (some ⟨w.heap.size, 0, none⟩)) (w.alloc (.cells #[.int .i64 0, .slice none 0 0] 46 (0, 0))) := by simp [go_sem]
theorem nilNe (x : Operand) (w : World) : (do eqGuard .neq 27 x (.const .nilIface) .nilIface .nilIface; binOp .neq 27 .nilIface .nilIface : Sem Value).run Tryd.prog w = .ok (.bool false) w := by simp [go_sem]
section
variable {P : Program} {a : Act} {o : Oper} {w : World}
theorem len_val {x : Operand} {t e : TypeId} {ad : Option Addr} {n c : Nat} (hu : P.underlying t = some (.slice e)) (ho : o.op = .call { callee := .builtin .len, args := #[x], argTypes := #[t] }) (hx : a.eval x = .slice ad n c) : (execOp a.eval o).run P w = .ok (.value (.int .i64 n)) w := by
  simp only [execOp, ho, resolve, List.map_toArray, List.map_cons, List.map_nil, hx]
  simp [go_sem, invoke, Builtin.len_, run_underlying hu, Result.andThen, Sem.run_bind, Sem.run_pure]
end
set_option linter.unusedVariables false
set_option maxRecDepth 100000 in
set_option maxHeartbeats 1000000 in
theorem put_region5 (a : Act) (t : Int) (va : Option Addr) (n vc : Nat) (B : List Nat) (g : Nat) (W w : World) (Q : Exit → Act → World → Prop) (hsz : a.tmps.size = 119)
    (h2 : a.eval (.tmp 2) = .pointer (some ⟨g, 0, none⟩)) (hb : W.heap[g]? = some (.cells #[.int .i64 t, .slice va n vc] 46 (0, 0)))
    (hC : ∀ w, W.grownBy w none → Calls Tryd.prog 20 #[.slice va n vc] w fun e w' => ∃ x, e = .returned x ∧ w.grownBy w' none ∧ InAt w t B x w')
    (hw : W.grownBy { w with drawn := w.drawn + 1 } none)
    (hQ : ∀ us w' g5 gB c, us 5 = .pointer (some ⟨g5, 0, none⟩) → W.grownBy w' none → w'.heap[g5]? = some (.cells #[.int .i64 t, .slice (some ⟨gB, 0, none⟩) B.length c] 46 (0, 0)) → B.length + 6 ≤ c → c ≤ maxLen → gB < w'.heap.size → Room w' gB B → Q .normal (fill a [21, 22, 23, 24, 25, 26, 5] us) w') : putRegion5.wp Tryd.prog Q a w := by
  have hcf : ∀ args w, (callFunc 20 args).run Tryd.prog w = .ok (.enter 20 args) w := fun _ _ => by simp [go_sem]
  have hI : (Tryd.prog.info? 46).map (·.size) = some 2 := by kernel_rfl
  have c0 : ∀ w, W.grownBy w none → w.cell? ⟨g, 0, none⟩ = some (.int .i64 t) := fun w hg => cell_blk ((hg.block _ (blk_lt hb) (by simp)).trans hb) 0 rfl
  have c1 : ∀ w, W.grownBy w none → w.cell? ⟨g, 1, none⟩ = some (.slice va n vc) := fun w hg => cell_blk ((hg.block _ (blk_lt hb) (by simp)).trans hb) 1 rfl
  conv => arg 2; whnf
  refine wp_region_flow 7 [21, 22, 23, 24, 25, 26, 5] (fun w' => W.grownBy w' none) (fun w w' => w.grownBy w' none) (p5F W t (.slice va n vc) g B) (by kernel_rfl) (by kernel_rfl) (fun _ _ h k => grown_trans k h) (fun _ _ _ _ h k => p5F_stays h k) hw ?_ ?_
  · refine ⟨?_, ?_, ?_, ?_, ?_, ?_, ?_, trivial⟩
    · exact flow_step (fun us w hC hd => wants_free rfl) (fun us w hC hd => ⟨_, w, field_val rfl ((fill_old (by rfl)).trans h2) (fieldEl0 g w), grown_refl _ _, rfl⟩)
    · exact flow_step (fun us w hC hd => wants_free rfl) (fun us w hC hd => ⟨_, w, load1_val rfl ((fill_tmp (by rfl) (by rw [hsz]; decide)).trans (hd 0 (by decide))) (loadEl0 (c0 w hC)), grown_refl _ _, rfl⟩)
    · exact flow_step (fun us w hC hd => wants_free rfl) (fun us w hC hd => ⟨_, w, field_val rfl ((fill_old (by rfl)).trans h2) (fieldEl1 g w), grown_refl _ _, rfl⟩)
    · exact flow_step (fun us w hC hd => wants_free rfl) (fun us w hC hd => ⟨_, w, load1_val rfl ((fill_tmp (by rfl) (by rw [hsz]; decide)).trans (hd 2 (by decide))) (loadEl1 (c1 w hC)), grown_refl _ _, rfl⟩)
    · refine flow_call 20 (fun us => #[us 24]) (fun us w hC hd => wants_free rfl) (fun us w => by rw [call_enter rfl hcf, List.map_toArray, List.map_cons, List.map_nil, fill_tmp (by rfl) (by rw [hsz]; decide)]) (fun us w hC' hd => ?_)
      rw [show us 24 = .slice va n vc from hd 3 (by decide)]
      refine (hC w hC').mono ?_
      rintro e w' ⟨x, rfl, hg, gB, c, h1, h2, h3, h4, h5⟩
      exact ⟨x, rfl, hg, gB, c, h1, h2, h3, Nat.le_trans hC'.size h4, h5⟩
    · refine flow_step (fun us w hC hd => wants_free rfl) (fun us w hC hd => ?_)
      obtain ⟨gB, c, e1, e2⟩ : InAt W t B (us 25) w := hd 4 (by decide)
      exact ⟨_, w, build2_val rfl ((fill_tmp (by rfl) (by rw [hsz]; decide)).trans (hd 1 (by decide))) ((fill_tmp (by rfl) (by rw [hsz]; decide)).trans e1) (buildEl t _ _ _ w), grown_refl _ _, _, rfl, gB, c, rfl, e2⟩
    · exact flow_step (fun us w hC hd => wants_free rfl) (fun us w hC hd => ⟨_, _, alloc_val rfl (allocEl w), World.grownBy_alloc _ _ _, w.heap.size, rfl, hC.size, alloc_at _ _⟩)
  · intro us w' hC' hF
    obtain ⟨y, e26, gB, c, rfl, q1, q2, q3, ⟨cur, fr, q4⟩, q5⟩ : ∃ y, us 26 = .agg #[.int .i64 t, y] ∧ InAt W t B y w' := hF 5 (by decide)
    obtain ⟨g5, e5, p1, p2⟩ : ∃ g5, us 5 = .pointer (some ⟨g5, 0, none⟩) ∧ W.heap.size ≤ g5 ∧ w'.heap[g5]? = some (.cells #[.int .i64 0, .slice none 0 0] 46 (0, 0)) := hF 6 (by decide)
    have hne : gB ≠ g5 := fun h => by
      subst h
      rw [q4] at p2
      simp at p2
    refine wpList_store_row (by rfl) 46 (.tmp 5) (.tmp 26) (by rfl) g5 #[.int .i64 t, .slice (some ⟨gB, 0, none⟩) B.length c] ((fill_tmp (by rfl) (by rw [hsz]; decide)).trans e5) ((fill_tmp (by rfl) (by rw [hsz]; decide)).trans e26) _ _ p2 hI rfl (by simp [Value.oneCell']) ?_
    refine hQ us _ g5 gB c e5 (grown_setRow hC' p1 _) (setRow_heap _ _ _ _ _ _ p2) q1 q2 ?_ ?_
    · rw [size_setRow]; exact blk_lt q4
    · exact fun j hj => by rw [World.cell?_of_block (setRow_other _ _ _ _ hne)]; exact q5 j hj
set_option linter.unusedVariables false
set_option maxRecDepth 100000 in
set_option maxHeartbeats 1000000 in
theorem put_region13 (a : Act) (t : Int) (va : Option Addr) (n vc : Nat) (a1 : Option Addr) (k c1 : Nat) (E : List Nat) (S : ByteArray) (g : Nat) (W w : World) (Q : Exit → Act → World → Prop) (hsz : a.tmps.size = 119)
    (h2 : a.eval (.tmp 2) = .pointer (some ⟨g, 0, none⟩)) (h6 : a.eval (.tmp 6) = .slice a1 k c1) (h7 : a.eval (.tmp 7) = .nilIface) (hb : W.heap[g]? = some (.cells #[.int .i64 t, .slice va n vc] 46 (0, 0)))
    (hSa : ∀ w, W.grownBy w none → (convert 22 9 (.slice a1 k c1)).run Tryd.prog w = .ok (.string S) w)
    (hSu : ∀ w x, FrW W w x E → (convert 22 9 x).run Tryd.prog w = .ok (.string S) w)
    (hP : ∀ w, W.grownBy w none → Calls Tryd.prog 24 #[.int .i64 t, .slice va n vc] w fun e w' => ∃ x, e = .returned x ∧ w.grownBy w' none ∧ FrW W w' x E)
    (hS : ∀ w, Calls Tryd.prog 25 #[.int .i64 n] w fun e w' => e = .returned (.int .i64 k) ∧ w' = w)
    (hw : W.grownBy { w with drawn := w.drawn + 1 } none)
    (hQ : ∀ us w', W.grownBy w' none → Q .normal ((fill a (List.range' 62 21) us).put (some 83) (.bool false)) w') : putRegion13.wp Tryd.prog Q a w := by
  have hcfP : ∀ args w, (callFunc 24 args).run Tryd.prog w = .ok (.enter 24 args) w := fun _ _ => by simp [go_sem]
  have hcfS : ∀ args w, (callFunc 25 args).run Tryd.prog w = .ok (.enter 25 args) w := fun _ _ => by simp [go_sem]
  have c0 : ∀ w, W.grownBy w none → w.cell? ⟨g, 0, none⟩ = some (.int .i64 t) := fun w hg => cell_blk ((hg.block _ (blk_lt hb) (by simp)).trans hb) 0 rfl
  have c1' : ∀ w, W.grownBy w none → w.cell? ⟨g, 1, none⟩ = some (.slice va n vc) := fun w hg => cell_blk ((hg.block _ (blk_lt hb) (by simp)).trans hb) 1 rfl
  conv => arg 2; whnf
  refine wp_region_flow 21 (List.range' 62 21) (fun w' => W.grownBy w' none) (fun w w' => w.grownBy w' none) (p13F W E [.nilIface, .bool false, .bool false, .slice a1 k c1, .string S, .pointer (some ⟨g, 0, none⟩), .int .i64 t, .pointer (some ⟨g, 1, none⟩), .slice va n vc, undef, .string S, .bool false, .bool false, .bool false, .pointer (some ⟨g, 1, none⟩), .slice va n vc, .int .i64 n, .int .i64 k, .slice a1 k c1, .int .i64 k, .bool false]) (by kernel_rfl) (by kernel_rfl) (fun _ _ h k => grown_trans k h) (fun _ _ _ _ h k => p13F_stays h k) hw ?_ ?_
  · refine ⟨?_, ?_, ?_, ?_, ?_, ?_, ?_, ?_, ?_, ?_, ?_, ?_, ?_, ?_, ?_, ?_, ?_, ?_, ?_, ?_, ?_, trivial⟩
    · exact flow_step (fun us w hC hd => wants_free rfl) (fun us w hC hd => ⟨_, w, move_val rfl ((fill_old (by rfl)).trans h7), grown_refl _ _, rfl⟩)
    · exact flow_step (fun us w hC hd => wants_free rfl) (fun us w hC hd => ⟨_, w, neqnil_val rfl ((fill_tmp (by rfl) (by rw [hsz]; decide)).trans (hd 0 (by decide))) (nilNe _), grown_refl _ _, rfl⟩)
    · exact flow_step (fun us w hC hd => wants_free rfl) (fun us w hC hd => ⟨_, w, move_val rfl ((fill_tmp (by rfl) (by rw [hsz]; decide)).trans (hd 1 (by decide))), grown_refl _ _, rfl⟩)
    · exact flow_step (fun us w hC hd => wants_on (d := 64) (b := false) rfl rfl (by rfl) (by rw [hsz]; decide) (hd 2 (by decide))) (fun us w hC hd => ⟨_, w, move_val rfl ((fill_old (by rfl)).trans h6), grown_refl _ _, rfl⟩)
    · exact flow_step (fun us w hC hd => wants_on (d := 64) (b := false) rfl rfl (by rfl) (by rw [hsz]; decide) (hd 2 (by decide))) (fun us w hC hd => ⟨_, w, conv_val rfl ((fill_tmp (by rfl) (by rw [hsz]; decide)).trans (hd 3 (by decide))) (hSa w hC), grown_refl _ _, rfl⟩)
    · exact flow_step (fun us w hC hd => wants_on (d := 64) (b := false) rfl rfl (by rfl) (by rw [hsz]; decide) (hd 2 (by decide))) (fun us w hC hd => ⟨_, w, field_val rfl ((fill_old (by rfl)).trans h2) (fieldEl0 g w), grown_refl _ _, rfl⟩)
    · exact flow_step (fun us w hC hd => wants_on (d := 64) (b := false) rfl rfl (by rfl) (by rw [hsz]; decide) (hd 2 (by decide))) (fun us w hC hd => ⟨_, w, load1_val rfl ((fill_tmp (by rfl) (by rw [hsz]; decide)).trans (hd 5 (by decide))) (loadEl0 (c0 w hC)), grown_refl _ _, rfl⟩)
    · exact flow_step (fun us w hC hd => wants_on (d := 64) (b := false) rfl rfl (by rfl) (by rw [hsz]; decide) (hd 2 (by decide))) (fun us w hC hd => ⟨_, w, field_val rfl ((fill_old (by rfl)).trans h2) (fieldEl1 g w), grown_refl _ _, rfl⟩)
    · exact flow_step (fun us w hC hd => wants_on (d := 64) (b := false) rfl rfl (by rfl) (by rw [hsz]; decide) (hd 2 (by decide))) (fun us w hC hd => ⟨_, w, load1_val rfl ((fill_tmp (by rfl) (by rw [hsz]; decide)).trans (hd 7 (by decide))) (loadEl1 (c1' w hC)), grown_refl _ _, rfl⟩)
    · refine flow_call 24 (fun us => #[us 68, us 70]) (fun us w hC hd => wants_on (d := 64) (b := false) rfl rfl (by rfl) (by rw [hsz]; decide) (hd 2 (by decide))) (fun us w => by rw [call_enter rfl hcfP, List.map_toArray, List.map_cons, List.map_cons, List.map_nil, fill_tmp (by rfl) (by rw [hsz]; decide), fill_tmp (by rfl) (by rw [hsz]; decide)]) (fun us w hC' hd => ?_)
      rw [show us 68 = .int .i64 t from hd 6 (by decide), show us 70 = .slice va n vc from hd 8 (by decide)]
      exact hP w hC'
    · exact flow_step (fun us w hC hd => wants_on (d := 64) (b := false) rfl rfl (by rfl) (by rw [hsz]; decide) (hd 2 (by decide))) (fun us w hC hd => ⟨_, w, conv_val rfl (fill_tmp (by rfl) (by rw [hsz]; decide)) (hSu w _ (hd 9 (by decide))), grown_refl _ _, rfl⟩)
    · exact flow_step (fun us w hC hd => wants_on (d := 64) (b := false) rfl rfl (by rfl) (by rw [hsz]; decide) (hd 2 (by decide))) (fun us w hC hd => ⟨_, w, neqstr_val rfl ((fill_tmp (by rfl) (by rw [hsz]; decide)).trans (hd 4 (by decide))) ((fill_tmp (by rfl) (by rw [hsz]; decide)).trans (hd 10 (by decide))), grown_refl _ _, rfl⟩)
    · exact flow_step (fun us w hC hd => wants_free rfl) (fun us w hC hd => ⟨_, w, pick_false rfl ((fill_tmp (by rfl) (by rw [hsz]; decide)).trans (hd 2 (by decide))) ((fill_tmp (by rfl) (by rw [hsz]; decide)).trans (hd 11 (by decide))), grown_refl _ _, rfl⟩)
    · exact flow_step (fun us w hC hd => wants_free rfl) (fun us w hC hd => ⟨_, w, move_val rfl ((fill_tmp (by rfl) (by rw [hsz]; decide)).trans (hd 12 (by decide))), grown_refl _ _, rfl⟩)
    · exact flow_step (fun us w hC hd => wants_on (d := 75) (b := false) rfl rfl (by rfl) (by rw [hsz]; decide) (hd 13 (by decide))) (fun us w hC hd => ⟨_, w, field_val rfl ((fill_old (by rfl)).trans h2) (fieldEl1 g w), grown_refl _ _, rfl⟩)
    · exact flow_step (fun us w hC hd => wants_on (d := 75) (b := false) rfl rfl (by rfl) (by rw [hsz]; decide) (hd 13 (by decide))) (fun us w hC hd => ⟨_, w, load1_val rfl ((fill_tmp (by rfl) (by rw [hsz]; decide)).trans (hd 14 (by decide))) (loadEl1 (c1' w hC)), grown_refl _ _, rfl⟩)
    · exact flow_step (fun us w hC hd => wants_on (d := 75) (b := false) rfl rfl (by rfl) (by rw [hsz]; decide) (hd 13 (by decide))) (fun us w hC hd => ⟨_, w, len_val Tryd.underlying22 rfl ((fill_tmp (by rfl) (by rw [hsz]; decide)).trans (hd 15 (by decide))), grown_refl _ _, rfl⟩)
    · refine flow_call 25 (fun us => #[us 78]) (fun us w hC hd => wants_on (d := 75) (b := false) rfl rfl (by rfl) (by rw [hsz]; decide) (hd 13 (by decide))) (fun us w => by rw [call_enter rfl hcfS, List.map_toArray, List.map_cons, List.map_nil, fill_tmp (by rfl) (by rw [hsz]; decide)]) (fun us w hC' hd => ?_)
      rw [show us 78 = .int .i64 n from hd 16 (by decide)]
      refine (hS w).mono ?_
      rintro e w' ⟨rfl, rfl⟩
      exact ⟨_, rfl, grown_refl _ _, rfl⟩
    · exact flow_step (fun us w hC hd => wants_on (d := 75) (b := false) rfl rfl (by rfl) (by rw [hsz]; decide) (hd 13 (by decide))) (fun us w hC hd => ⟨_, w, move_val rfl ((fill_old (by rfl)).trans h6), grown_refl _ _, rfl⟩)
    · exact flow_step (fun us w hC hd => wants_on (d := 75) (b := false) rfl rfl (by rfl) (by rw [hsz]; decide) (hd 13 (by decide))) (fun us w hC hd => ⟨_, w, len_val Tryd.underlying22 rfl ((fill_tmp (by rfl) (by rw [hsz]; decide)).trans (hd 18 (by decide))), grown_refl _ _, rfl⟩)
    · exact flow_step (fun us w hC hd => wants_on (d := 75) (b := false) rfl rfl (by rfl) (by rw [hsz]; decide) (hd 13 (by decide))) (fun us w hC hd => ⟨_, w, neqint_val rfl ((fill_tmp (by rfl) (by rw [hsz]; decide)).trans (hd 17 (by decide))) ((fill_tmp (by rfl) (by rw [hsz]; decide)).trans (hd 19 (by decide))), grown_refl _ _, rfl⟩)
  · intro us w' hC' hF
    exact wpList_last rfl (pick_false rfl ((fill_tmp (by rfl) (by rw [hsz]; decide)).trans (hF 13 (by decide))) ((fill_tmp (by rfl) (by rw [hsz]; decide)).trans (hF 20 (by decide)))) (hQ us w' hC')
end Go.Proofs.YtndgbhgalablfaaDoor
