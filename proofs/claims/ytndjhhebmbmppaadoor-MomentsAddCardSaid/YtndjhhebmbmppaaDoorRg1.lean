/- The region of the document's Get of dates that draws its order. -/
import Derived.Test.YtndjhhebmbmppaaDoorFl6
namespace Go.Proofs.YtndjhhebmbmppaaDoor
open Go.RowKit

section
variable {P : Program} {a : Act} {o : Oper} {w : World}
theorem build6_val {t : TypeId} {x0 x1 x2 x3 x4 x5 : Operand} {p0 p1 p2 p3 p4 p5 v : Value} (ho : o.op = .build t #[(0, x0), (1, x1), (2, x2), (3, x3), (4, x4), (5, x5)]) (h0 : a.eval x0 = p0) (h1 : a.eval x1 = p1) (h2 : a.eval x2 = p2) (h3 : a.eval x3 = p3) (h4 : a.eval x4 = p4) (h5 : a.eval x5 = p5)
    (h : (Instr.build t #[(0, p0), (1, p1), (2, p2), (3, p3), (4, p4), (5, p5)]).run P w = .ok v w) : (execOp a.eval o).run P w = .ok (.value v) w := by
  simp [execOp, ho, h0, h1, h2, h3, h4, h5, h, Result.andThen]
theorem alloc_valD {t : TypeId} {v : Value} {w' : World} (ho : o.op = .alloc t) (h : (Instr.alloc t true (.tuple #[])).run P w = .ok v w') : (execOp a.eval o).run P w = .ok (.value v) w' := by
  simp [execOp, ho, h, Result.andThen]
end
theorem buildDt (w : World) (z0 z1 z2 z3 z4 z5 : Int) : (Instr.build 34 #[(0, .int .i64 z0), (1, .int .i64 z1), (2, .int .i64 z2), (3, .int .i64 z3), (4, .int .i64 z4), (5, .int .i64 z5)]).run Tryd.prog w = .ok (.agg #[.int .i64 z0, .int .i64 z1, .int .i64 z2, .int .i64 z3, .int .i64 z4, .int .i64 z5]) w := by simp [go_sem]
theorem allocDt (w : World) : (Instr.alloc 34 true (.tuple #[])).run Tryd.prog w = .ok (.pointer (some ⟨w.heap.size, 0, none⟩)) (w.alloc (.cells #[.int .i64 0, .int .i64 0, .int .i64 0, .int .i64 0, .int .i64 0, .int .i64 0] 34 (0, 0))) := by simp [go_sem]
def isNewD (W : World) : Value → World → Prop := fun x w => ∃ b, x = .pointer (some ⟨b, 0, none⟩) ∧ W.heap.size ≤ b ∧ w.heap[b]? = some (.cells #[.int .i64 0, .int .i64 0, .int .i64 0, .int .i64 0, .int .i64 0, .int .i64 0] 34 (0, 0))
theorem stays_newD (W : World) : Stays (isNewD W) := fun _ _ _ hg ⟨b, h1, h2, h3⟩ => ⟨b, h1, h2, (hg.block b (blk_lt h3) (by simp)).trans h3⟩
noncomputable def gt_regionC : Code := regionIn Tryd.f19.body 10
set_option linter.unusedVariables false
set_option maxRecDepth 100000 in
set_option maxHeartbeats 2000000 in
theorem gt_region (a : Act) (g c : Nat) (n0 n1 n2 n3 n4 n5 n6 Y : Int) (W w : World) (Q : Exit → Act → World → Prop) (hsz : a.tmps.size = 96)
    (h4 : a.eval (.tmp 4) = .slice (some ⟨g, 0, none⟩) 7 c)
    (hcl : ∀ w, W.grownBy w none → ∀ k z, [n0, n1, n2, n3, n4, n5, n6][k]? = some z → w.cell? ⟨g, 0 + k, none⟩ = some (.int .i64 z))
    (hY : IntKind.i64.wrap (IntKind.i64.wrap (n0 * 100) + n1) = Y)
    (hw : W.grownBy { w with drawn := w.drawn + 1 } none)
    (hQ : ∀ us w' b, us 6 = .pointer (some ⟨b, 0, none⟩) → W.heap.size ≤ b → W.grownBy w' none → w'.heap[b]? = some (.cells #[.int .i64 Y, .int .i64 n2, .int .i64 n3, .int .i64 n4, .int .i64 n5, .int .i64 n6] 34 (0, 0)) → Q .normal (fill a [67, 68, 69, 70, 71, 72, 73, 74, 75, 76, 77, 78, 79, 80, 81, 82, 83, 84, 85, 86, 87, 88, 89, 90, 6] us) w') : gt_regionC.wp Tryd.prog Q a w := by
  have hI : (Tryd.prog.info? 34).map (·.size) = some 6 := by kernel_rfl
  have hst : StaysAll [isV (.slice (some ⟨g, 0, none⟩) 7 c), isV (.pointer (some ⟨g, 0 + 0, none⟩)), isV (.int .i64 n0), isV (.int .i64 (IntKind.i64.wrap (n0 * 100))), isV (.slice (some ⟨g, 0, none⟩) 7 c), isV (.pointer (some ⟨g, 0 + 1, none⟩)), isV (.int .i64 n1), isV (.int .i64 Y), isV (.slice (some ⟨g, 0, none⟩) 7 c), isV (.pointer (some ⟨g, 0 + 2, none⟩)), isV (.int .i64 n2), isV (.slice (some ⟨g, 0, none⟩) 7 c), isV (.pointer (some ⟨g, 0 + 3, none⟩)), isV (.int .i64 n3), isV (.slice (some ⟨g, 0, none⟩) 7 c), isV (.pointer (some ⟨g, 0 + 4, none⟩)), isV (.int .i64 n4), isV (.slice (some ⟨g, 0, none⟩) 7 c), isV (.pointer (some ⟨g, 0 + 5, none⟩)), isV (.int .i64 n5), isV (.slice (some ⟨g, 0, none⟩) 7 c), isV (.pointer (some ⟨g, 0 + 6, none⟩)), isV (.int .i64 n6), isV (.agg #[.int .i64 Y, .int .i64 n2, .int .i64 n3, .int .i64 n4, .int .i64 n5, .int .i64 n6]), isNewD W] := ⟨stays_V _, stays_V _, stays_V _, stays_V _, stays_V _, stays_V _, stays_V _, stays_V _, stays_V _, stays_V _, stays_V _, stays_V _, stays_V _, stays_V _, stays_V _, stays_V _, stays_V _, stays_V _, stays_V _, stays_V _, stays_V _, stays_V _, stays_V _, stays_V _, stays_newD _, trivial⟩
  conv => arg 2; whnf
  refine wp_region_flow 25 [67, 68, 69, 70, 71, 72, 73, 74, 75, 76, 77, 78, 79, 80, 81, 82, 83, 84, 85, 86, 87, 88, 89, 90, 6] (fun w' => W.grownBy w' none) (fun w w' => w.grownBy w' none) (flF [isV (.slice (some ⟨g, 0, none⟩) 7 c), isV (.pointer (some ⟨g, 0 + 0, none⟩)), isV (.int .i64 n0), isV (.int .i64 (IntKind.i64.wrap (n0 * 100))), isV (.slice (some ⟨g, 0, none⟩) 7 c), isV (.pointer (some ⟨g, 0 + 1, none⟩)), isV (.int .i64 n1), isV (.int .i64 Y), isV (.slice (some ⟨g, 0, none⟩) 7 c), isV (.pointer (some ⟨g, 0 + 2, none⟩)), isV (.int .i64 n2), isV (.slice (some ⟨g, 0, none⟩) 7 c), isV (.pointer (some ⟨g, 0 + 3, none⟩)), isV (.int .i64 n3), isV (.slice (some ⟨g, 0, none⟩) 7 c), isV (.pointer (some ⟨g, 0 + 4, none⟩)), isV (.int .i64 n4), isV (.slice (some ⟨g, 0, none⟩) 7 c), isV (.pointer (some ⟨g, 0 + 5, none⟩)), isV (.int .i64 n5), isV (.slice (some ⟨g, 0, none⟩) 7 c), isV (.pointer (some ⟨g, 0 + 6, none⟩)), isV (.int .i64 n6), isV (.agg #[.int .i64 Y, .int .i64 n2, .int .i64 n3, .int .i64 n4, .int .i64 n5, .int .i64 n6]), isNewD W]) (by kernel_rfl) (by kernel_rfl) (fun _ _ h k => grown_trans k h) (fun j x w w' hg h => flF_stays hst j x w w' hg h) hw ?_ ?_
  · refine ⟨?_, ?_, ?_, ?_, ?_, ?_, ?_, ?_, ?_, ?_, ?_, ?_, ?_, ?_, ?_, ?_, ?_, ?_, ?_, ?_, ?_, ?_, ?_, ?_, ?_, trivial⟩
    · exact flow_step (fun us w hC hd => wants_free rfl) (fun us w hC hd => ⟨_, w, move_val rfl ((fill_old (by rfl)).trans h4), grown_refl _ _, rfl⟩)
    · exact flow_step (fun us w hC hd => wants_free rfl) (fun us w hC hd => ⟨_, w, idx_val rfl ((fill_tmp (by rfl) (by rw [hsz]; decide)).trans (hd 0 (by decide))) rfl (idxI w g 0 7 c 0 (by decide)), grown_refl _ _, rfl⟩)
    · exact flow_step (fun us w hC hd => wants_free rfl) (fun us w hC hd => ⟨_, w, loadc_val rfl ((fill_tmp (by rfl) (by rw [hsz]; decide)).trans (hd 1 (by decide))) (loadI (hcl w hC 0 n0 rfl)), grown_refl _ _, rfl⟩)
    · exact flow_step (fun us w hC hd => wants_free rfl) (fun us w hC hd => ⟨_, w, mulint_val rfl ((fill_tmp (by rfl) (by rw [hsz]; decide)).trans (hd 2 (by decide))) rfl, grown_refl _ _, rfl⟩)
    · exact flow_step (fun us w hC hd => wants_free rfl) (fun us w hC hd => ⟨_, w, move_val rfl ((fill_old (by rfl)).trans h4), grown_refl _ _, rfl⟩)
    · exact flow_step (fun us w hC hd => wants_free rfl) (fun us w hC hd => ⟨_, w, idx_val rfl ((fill_tmp (by rfl) (by rw [hsz]; decide)).trans (hd 4 (by decide))) rfl (idxI w g 0 7 c 1 (by decide)), grown_refl _ _, rfl⟩)
    · exact flow_step (fun us w hC hd => wants_free rfl) (fun us w hC hd => ⟨_, w, loadc_val rfl ((fill_tmp (by rfl) (by rw [hsz]; decide)).trans (hd 5 (by decide))) (loadI (hcl w hC 1 n1 rfl)), grown_refl _ _, rfl⟩)
    · exact flow_step (fun us w hC hd => wants_free rfl) (fun us w hC hd => ⟨_, w, (addint_val rfl ((fill_tmp (by rfl) (by rw [hsz]; decide)).trans (hd 3 (by decide))) ((fill_tmp (by rfl) (by rw [hsz]; decide)).trans (hd 6 (by decide)))).trans (by rw [hY]), grown_refl _ _, rfl⟩)
    · exact flow_step (fun us w hC hd => wants_free rfl) (fun us w hC hd => ⟨_, w, move_val rfl ((fill_old (by rfl)).trans h4), grown_refl _ _, rfl⟩)
    · exact flow_step (fun us w hC hd => wants_free rfl) (fun us w hC hd => ⟨_, w, idx_val rfl ((fill_tmp (by rfl) (by rw [hsz]; decide)).trans (hd 8 (by decide))) rfl (idxI w g 0 7 c 2 (by decide)), grown_refl _ _, rfl⟩)
    · exact flow_step (fun us w hC hd => wants_free rfl) (fun us w hC hd => ⟨_, w, loadc_val rfl ((fill_tmp (by rfl) (by rw [hsz]; decide)).trans (hd 9 (by decide))) (loadI (hcl w hC 2 n2 rfl)), grown_refl _ _, rfl⟩)
    · exact flow_step (fun us w hC hd => wants_free rfl) (fun us w hC hd => ⟨_, w, move_val rfl ((fill_old (by rfl)).trans h4), grown_refl _ _, rfl⟩)
    · exact flow_step (fun us w hC hd => wants_free rfl) (fun us w hC hd => ⟨_, w, idx_val rfl ((fill_tmp (by rfl) (by rw [hsz]; decide)).trans (hd 11 (by decide))) rfl (idxI w g 0 7 c 3 (by decide)), grown_refl _ _, rfl⟩)
    · exact flow_step (fun us w hC hd => wants_free rfl) (fun us w hC hd => ⟨_, w, loadc_val rfl ((fill_tmp (by rfl) (by rw [hsz]; decide)).trans (hd 12 (by decide))) (loadI (hcl w hC 3 n3 rfl)), grown_refl _ _, rfl⟩)
    · exact flow_step (fun us w hC hd => wants_free rfl) (fun us w hC hd => ⟨_, w, move_val rfl ((fill_old (by rfl)).trans h4), grown_refl _ _, rfl⟩)
    · exact flow_step (fun us w hC hd => wants_free rfl) (fun us w hC hd => ⟨_, w, idx_val rfl ((fill_tmp (by rfl) (by rw [hsz]; decide)).trans (hd 14 (by decide))) rfl (idxI w g 0 7 c 4 (by decide)), grown_refl _ _, rfl⟩)
    · exact flow_step (fun us w hC hd => wants_free rfl) (fun us w hC hd => ⟨_, w, loadc_val rfl ((fill_tmp (by rfl) (by rw [hsz]; decide)).trans (hd 15 (by decide))) (loadI (hcl w hC 4 n4 rfl)), grown_refl _ _, rfl⟩)
    · exact flow_step (fun us w hC hd => wants_free rfl) (fun us w hC hd => ⟨_, w, move_val rfl ((fill_old (by rfl)).trans h4), grown_refl _ _, rfl⟩)
    · exact flow_step (fun us w hC hd => wants_free rfl) (fun us w hC hd => ⟨_, w, idx_val rfl ((fill_tmp (by rfl) (by rw [hsz]; decide)).trans (hd 17 (by decide))) rfl (idxI w g 0 7 c 5 (by decide)), grown_refl _ _, rfl⟩)
    · exact flow_step (fun us w hC hd => wants_free rfl) (fun us w hC hd => ⟨_, w, loadc_val rfl ((fill_tmp (by rfl) (by rw [hsz]; decide)).trans (hd 18 (by decide))) (loadI (hcl w hC 5 n5 rfl)), grown_refl _ _, rfl⟩)
    · exact flow_step (fun us w hC hd => wants_free rfl) (fun us w hC hd => ⟨_, w, move_val rfl ((fill_old (by rfl)).trans h4), grown_refl _ _, rfl⟩)
    · exact flow_step (fun us w hC hd => wants_free rfl) (fun us w hC hd => ⟨_, w, idx_val rfl ((fill_tmp (by rfl) (by rw [hsz]; decide)).trans (hd 20 (by decide))) rfl (idxI w g 0 7 c 6 (by decide)), grown_refl _ _, rfl⟩)
    · exact flow_step (fun us w hC hd => wants_free rfl) (fun us w hC hd => ⟨_, w, loadc_val rfl ((fill_tmp (by rfl) (by rw [hsz]; decide)).trans (hd 21 (by decide))) (loadI (hcl w hC 6 n6 rfl)), grown_refl _ _, rfl⟩)
    · exact flow_step (fun us w hC hd => wants_free rfl) (fun us w hC hd => ⟨_, w, build6_val rfl ((fill_tmp (by rfl) (by rw [hsz]; decide)).trans (hd 7 (by decide))) ((fill_tmp (by rfl) (by rw [hsz]; decide)).trans (hd 10 (by decide))) ((fill_tmp (by rfl) (by rw [hsz]; decide)).trans (hd 13 (by decide))) ((fill_tmp (by rfl) (by rw [hsz]; decide)).trans (hd 16 (by decide))) ((fill_tmp (by rfl) (by rw [hsz]; decide)).trans (hd 19 (by decide))) ((fill_tmp (by rfl) (by rw [hsz]; decide)).trans (hd 22 (by decide))) (buildDt w _ _ _ _ _ _), grown_refl _ _, rfl⟩)
    · exact flow_step (fun us w hC hd => wants_free rfl) (fun us w hC hd => ⟨_, _, alloc_valD rfl (allocDt w), World.grownBy_alloc _ _ _, w.heap.size, rfl, hC.size, alloc_at _ _⟩)
  · intro us w' hC' hF
    have e90 : us 90 = .agg #[.int .i64 Y, .int .i64 n2, .int .i64 n3, .int .i64 n4, .int .i64 n5, .int .i64 n6] := hF 23 (by decide)
    obtain ⟨b, e6, p1, p2⟩ : isNewD W (us 6) w' := hF 24 (by decide)
    refine wpList_store_row (by rfl) 34 (.tmp 6) (.tmp 90) (by rfl) b #[.int .i64 Y, .int .i64 n2, .int .i64 n3, .int .i64 n4, .int .i64 n5, .int .i64 n6] ((fill_tmp (by rfl) (by rw [hsz]; decide)).trans e6) ((fill_tmp (by rfl) (by rw [hsz]; decide)).trans e90) _ _ p2 hI rfl (by simp [Value.oneCell']) ?_
    exact hQ us _ b e6 p1 (grown_setRow hC' p1 _) (setRow_heap _ _ _ _ _ _ p2)
end Go.Proofs.YtndjhhebmbmppaaDoor
