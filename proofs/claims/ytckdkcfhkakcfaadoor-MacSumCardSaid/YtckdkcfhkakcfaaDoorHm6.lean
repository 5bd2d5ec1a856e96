/- mac.Sum; its last region draws its order. -/
import Derived.Test.YtckdkcfhkakcfaaDoorHm2
import Derived.Test.YtckdkcfhkakcfaaDoorHm3
import Derived.Test.YtckdkcfhkakcfaaDoorHm5
namespace Go.Proofs.YtckdkcfhkakcfaaDoor
open Go.RowKit

theorem build2_val {P : Program} {a : Act} {o : Oper} {w : World} {t e : TypeId} {x y : Operand} {u v : Value} (ho : o.op = .buildSlice t 2 #[(0, x), (1, y)]) (hx : a.eval x = u) (hy : a.eval y = v)
    (hb : (Instr.buildSlice t 2 #[(0, u), (1, v)]).run P w = .ok (.slice (some ⟨w.heap.size, 0, none⟩) 2 2) (w.alloc (.cells #[u, v] e))) :
    (execOp a.eval o).run P w = .ok (.value (.slice (some ⟨w.heap.size, 0, none⟩) 2 2)) (w.alloc (.cells #[u, v] e)) := by
  simp only [execOp, ho, List.map_toArray, List.map_cons, List.map_nil, hx, hy]
  simp [Sem.run_bind, Sem.run_pure, Result.andThen, hb]

/-- A slice of a block that has just these bytes. -/
def IsRow (m : List Nat) (x : Value) (w : World) : Prop := ∃ g, x = .slice (some ⟨g, 0, none⟩) 64 64 ∧ w.heap[g]? = some (.cells (bytesV m) 70 (0, 0))
def mrF (V D : Array Value) (b9 : Nat) (m : List Nat) (j : Nat) (x : Value) (w : World) : Prop :=
  if j = 0 then x = .agg V else if j = 1 then IsRow m x w else if j = 2 then x = .slice (some ⟨b9, 0, none⟩) 32 32 else
  if j = 3 then ∃ g x1, x = .slice (some ⟨g, 0, none⟩) 2 2 ∧ w.heap[g]? = some (.cells #[x1, .slice (some ⟨b9, 0, none⟩) 32 32] 25 (0, 0)) ∧ IsRow m x1 w else x = .agg D
theorem IsRow.stays {m : List Nat} {x : Value} {w w' : World} (hg : w.grownBy w' none) (h : IsRow m x w) : IsRow m x w' := by
  obtain ⟨g, h1, h2⟩ := h
  exact ⟨g, h1, (hg.block _ (blk_lt h2) (by simp)).trans h2⟩
theorem mrF_stays {V D : Array Value} {b9 : Nat} {m : List Nat} {j : Nat} {x : Value} {w w' : World} (hg : w.grownBy w' none) (h : mrF V D b9 m j x w) : mrF V D b9 m j x w' := by
  unfold mrF at h ⊢
  by_cases h0 : j = 0
  · rw [if_pos h0] at h ⊢; exact h
  · rw [if_neg h0] at h ⊢
    by_cases h1 : j = 1
    · rw [if_pos h1] at h ⊢; exact h.stays hg
    · rw [if_neg h1] at h ⊢
      by_cases h2 : j = 2
      · rw [if_pos h2] at h ⊢; exact h
      · rw [if_neg h2] at h ⊢
        by_cases h3 : j = 3
        · rw [if_pos h3] at h ⊢
          obtain ⟨g, x1, e1, e2, e3⟩ := h
          exact ⟨g, x1, e1, (hg.block _ (blk_lt e2) (by simp)).trans e2, e3.stays hg⟩
        · rw [if_neg h3] at h ⊢; exact h

noncomputable def macRegion : Code := regionAt Tryd.f29.body 10

set_option linter.unusedVariables false
set_option maxRecDepth 100000 in
set_option maxHeartbeats 400000 in
theorem mac_region (a : Act) (bk m2 d1 : List Nat) (D : Array Value) (b4 bV b9 : Nat) (W : World) (Q : Exit → Act → World → Prop) (hsz : a.tmps.size = 34)
    (h4 : a.eval (.tmp 4) = .pointer (some ⟨b4, 0, none⟩)) (h5 : a.eval (.tmp 5) = .pointer (some ⟨bV, 0, none⟩)) (h9 : a.eval (.tmp 9) = .pointer (some ⟨b9, 0, none⟩))
    (hbk : bk.length = 64) (hm2 : m2 = Hm.mask 92 bk) (hbt : ∀ x ∈ bk, x < 256) (hd1 : d1.length = 32) (hdlt : ∀ x ∈ d1, x < 256) (hL : Laid W)
    (hb4 : W.heap[b4]? = some (.cells zeros32 27 (0, 0))) (hbV : W.heap[bV]? = some (.cells (bytesV bk) 70 (0, 0))) (hb9 : W.heap[b9]? = some (.cells (bytesV d1) 27 (0, 0)))
    (hD : D.size = 32) (hDo : D.all (·.oneCell') = true) (hDe : ∀ e : Value, e = .agg (bytesV (Sha.sum (m2 ++ d1))) → e = .agg D)
    (hQ : ∀ a' w', a'.defers = a.defers → a'.eval (.tmp 4) = .pointer (some ⟨b4, 0, none⟩) → (∃ w2, W.grownBy w2 none ∧ w' = w2.setRow b4 D) → w'.heap[b4]? = some (.cells D 27 (0, 0)) → Q .normal a' w') : macRegion.wp Tryd.prog Q a W := by
  have hcf51 : ∀ args w, (callFunc 51 args).run Tryd.prog w = .ok (.enter 51 args) w := fun _ _ => by simp [go_sem]
  have hcf14 : ∀ args w, (callFunc 14 args).run Tryd.prog w = .ok (.enter 14 args) w := fun _ _ => by simp [go_sem]
  have hbs : ∀ (g g' : Nat) (w : World), (Instr.buildSlice 22 2 #[(0, .slice (some ⟨g, 0, none⟩) 64 64), (1, .slice (some ⟨g', 0, none⟩) 32 32)]).run Tryd.prog w = .ok (.slice (some ⟨w.heap.size, 0, none⟩) 2 2) (w.alloc (.cells #[.slice (some ⟨g, 0, none⟩) 64 64, .slice (some ⟨g', 0, none⟩) 32 32] 25)) := fun _ _ _ => by simp [go_sem]
  have HI : (Tryd.prog.info? 27).map (·.size) = some D.size := by rw [hD]; kernel_rfl
  have HIV : (Tryd.prog.info? 70).map (·.size) = some (bytesV bk).size := by rw [bytesV_size, hbk]; kernel_rfl
  have hm2l : m2.length = 64 := by rw [hm2, Hm.mask_len, hbk]
  have hm2t : ∀ x ∈ m2, x < 256 := by rw [hm2]; exact Hm.mask_lt (by decide) hbt
  conv => arg 2; whnf
  refine wp_region_flow 5 (List.range' 29 5) (fun w' => W.grownBy w' none) (fun w w' => w.grownBy w' none) (mrF (bytesV bk) D b9 m2) (by kernel_rfl) (by kernel_rfl) (fun _ _ h k => grown_trans k h) (fun _ _ _ _ h k => mrF_stays h k) ⟨rfl, rfl, rfl, Nat.le_refl _, fun _ _ _ => rfl⟩ ?_ ?_
  · refine ⟨?_, ?_, ?_, ?_, ?_, trivial⟩
    · exact flow_step (fun us w hC hd => wants_free rfl) (fun us w hC hd => ⟨_, w, load_val rfl ((fill_old (by rfl)).trans h5) ((hC.block _ (blk_lt hbV) (by simp)).trans hbV) Tryd.underlying70 rfl HIV, grown_refl _ _, rfl⟩)
    · refine flow_call 51 (fun us => #[us 29, .int .u8 92]) (fun us w hC hd => wants_free rfl) (fun us w => ?_) (fun us w hC hd => ?_)
      · rw [call_enter rfl hcf51, List.map_toArray, List.map_cons, List.map_cons, List.map_nil, fill_tmp (by rfl) (by rw [hsz]; decide)]
        rfl
      · rw [show us 29 = .agg (bytesV bk) from hd 0 (by decide)]
        refine (masked_any bk hbk hbt 92 (by decide) w).mono ?_
        rintro e w' ⟨rfl, hg, hb⟩
        exact ⟨_, rfl, hg, ⟨_, rfl, by rw [hm2]; exact hb⟩⟩
    · exact flow_step (fun us w hC hd => wants_free rfl) (fun us w hC hd => ⟨_, w, slicearr_val rfl ((fill_old (by rfl)).trans h9) Tryd.underlying27 (fun _ => by kernel_rfl), grown_refl _ _, rfl⟩)
    · refine flow_step (fun us w hC hd => wants_free rfl) (fun us w hC hd => ?_)
      obtain ⟨g, e1, e2⟩ : IsRow m2 (us 30) w := hd 1 (by decide)
      have e3 : us 31 = .slice (some ⟨b9, 0, none⟩) 32 32 := hd 2 (by decide)
      exact ⟨_, _, build2_val rfl ((fill_tmp (by rfl) (by rw [hsz]; decide)).trans e1) ((fill_tmp (by rfl) (by rw [hsz]; decide)).trans e3) (hbs _ _ _), World.grownBy_alloc _ _ _, ⟨_, _, rfl, alloc_at _ _, ⟨g, rfl, (alloc_old _ _ _ (blk_lt e2)).trans e2⟩⟩⟩
    · refine flow_call 14 (fun us => #[us 32]) (fun us w hC hd => wants_free rfl) (fun us w => by rw [call_enter rfl hcf14, List.map_toArray, List.map_cons, List.map_nil, fill_tmp (by rfl) (by rw [hsz]; decide)]) (fun us w hC hd => ?_)
      obtain ⟨g, x1, e1, e2, g1, rfl, e3⟩ : ∃ g x1, us 32 = .slice (some ⟨g, 0, none⟩) 2 2 ∧ w.heap[g]? = some (.cells #[x1, .slice (some ⟨b9, 0, none⟩) 32 32] 25 (0, 0)) ∧ IsRow m2 x1 w := hd 3 (by decide)
      rw [e1]
      have hB1 := Bytes.lit (w := w) (g := g1) (l := m2) (t := 70) (fr := (0, 0)) (by rw [e3]; rfl) hm2t
      rw [hm2l] at hB1
      have hB2 := Bytes.lit (w := w) (g := b9) (l := d1) (t := 27) (fr := (0, 0)) (by rw [hC.block _ (blk_lt hb9) (by simp), hb9]; rfl) hdlt
      rw [hd1] at hB2
      have ef : [m2, d1].flatten = m2 ++ d1 := by simp
      refine (psum_any [m2, d1] (some ⟨g, 0, none⟩) g 0 2 2 rfl w (fun _ => ⟨rfl, blk_lt e2⟩) (fun i hi => ?_) (by rw [ef, List.length_append, hm2l, hd1]; decide) (by decide) (hL.grown hC (by simp) (by simp))).mono ?_
      · match i, hi with
        | 0, _ => exact ⟨_, cell_blk e2 0 rfl, hB1⟩
        | 1, _ => exact ⟨_, cell_blk e2 1 rfl, hB2⟩
      · rintro e w' ⟨rfl, hg⟩
        rw [ef]
        exact ⟨_, rfl, hg, hDe _ rfl⟩
  · intro us w' hC hF
    have f4 : us 33 = .agg D := hF 4 (by decide)
    have hb4' := (hC.block _ (blk_lt hb4) (by simp)).trans hb4
    refine wpList_store_row (by rfl) 27 (.tmp 4) (.tmp 33) (by rfl) b4 D ((fill_old (by rfl)).trans h4) ((fill_tmp (by rfl) (by rw [hsz]; decide)).trans f4) _ _ hb4' HI (by rw [hD]; rfl) hDo ?_
    exact hQ _ _ rfl ((fill_old (by rfl)).trans h4) ⟨w', hC, rfl⟩ (setRow_heap _ _ _ D _ _ hb4')
end Go.Proofs.YtckdkcfhkakcfaaDoor
