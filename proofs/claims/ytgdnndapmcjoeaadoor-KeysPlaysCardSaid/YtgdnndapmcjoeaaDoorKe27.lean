import Derived.Test.YtgdnndapmcjoeaaDoorKe21
import Derived.Test.YtgdnndapmcjoeaaDoorKe23
import Derived.Test.YtgdnndapmcjoeaaDoorKe26
import Derived.Lib.ConvBytes
namespace Go.Proofs.YtgdnndapmcjoeaaDoor
open Go.RowKit
theorem build2_val {P : Program} {a : Act} {o : Oper} {w : World} {t e : TypeId} {x y : Operand} {u v : Value} (ho : o.op = .buildSlice t 2 #[(0, x), (1, y)]) (hx : a.eval x = u) (hy : a.eval y = v)
    (hb : (Instr.buildSlice t 2 #[(0, u), (1, v)]).run P w = .ok (.slice (some ⟨w.heap.size, 0, none⟩) 2 2) (w.alloc (.cells #[u, v] e))) :
    (execOp a.eval o).run P w = .ok (.value (.slice (some ⟨w.heap.size, 0, none⟩) 2 2)) (w.alloc (.cells #[u, v] e)) := by
  simp only [execOp, ho, List.map_toArray, List.map_cons, List.map_nil, hx, hy]
  simp [Result.andThen, hb]
/-- A slice of a block that has just these bytes. -/
def IsRow (m : List Nat) (x : Value) (w : World) : Prop := ∃ g, x = .slice (some ⟨g, 0, none⟩) 64 64 ∧ w.heap[g]? = some (.cells (bytesV m) 112 (0, 0))
def mrF (V D : Array Value) (b9 : Nat) (m : List Nat) (j : Nat) (x : Value) (w : World) : Prop :=
  if j = 0 then x = .agg V else if j = 1 then IsRow m x w else if j = 2 then x = .slice (some ⟨b9, 0, none⟩) 32 32 else
  if j = 3 then ∃ g x1, x = .slice (some ⟨g, 0, none⟩) 2 2 ∧ w.heap[g]? = some (.cells #[x1, .slice (some ⟨b9, 0, none⟩) 32 32] 22 (0, 0)) ∧ IsRow m x1 w else x = .agg D
theorem IsRow.stays {m : List Nat} {x : Value} {w w' : World} (hg : w.grownBy w' none) (h : IsRow m x w) : IsRow m x w' := by
  obtain ⟨g, h1, h2⟩ := h
  exact ⟨g, h1, (hg.block _ (blk_lt h2) (by simp)).trans h2⟩
theorem mrF_stays {V D : Array Value} {b9 : Nat} {m : List Nat} {j : Nat} {x : Value} {w w' : World} (hg : w.grownBy w' none) (h : mrF V D b9 m j x w) : mrF V D b9 m j x w' := by
  unfold mrF at h ⊢
  by_cases h0 : j = 0
  · rw [if_pos h0] at h ⊢; exact h
  · rw [if_neg h0] at h ⊢
    by_cases h1 : j = 1
    · rw [if_pos h1] at h ⊢; exact h.stays hg
    · rw [if_neg h1] at h ⊢
      by_cases h2 : j = 2
      · rw [if_pos h2] at h ⊢; exact h
      · rw [if_neg h2] at h ⊢
        by_cases h3 : j = 3
        · rw [if_pos h3] at h ⊢
          obtain ⟨g, x1, e1, e2, e3⟩ := h
          exact ⟨g, x1, e1, (hg.block _ (blk_lt e2) (by simp)).trans e2, e3.stays hg⟩
        · rw [if_neg h3] at h ⊢; exact h
noncomputable def macRegion : Code := regionAt Tryd.f43.body 10
set_option linter.unusedVariables false
set_option maxRecDepth 100000 in
set_option maxHeartbeats 400000 in
theorem mac_region (a : Act) (bk m2 d1 : List Nat) (D : Array Value) (b4 bV b9 : Nat) (W : World) (Q : Exit → Act → World → Prop) (hsz : a.tmps.size = 34)
    (h4 : a.eval (.tmp 4) = .pointer (some ⟨b4, 0, none⟩)) (h5 : a.eval (.tmp 5) = .pointer (some ⟨bV, 0, none⟩)) (h9 : a.eval (.tmp 9) = .pointer (some ⟨b9, 0, none⟩))
    (hbk : bk.length = 64) (hm2 : m2 = Hm.mask 92 bk) (hbt : ∀ x ∈ bk, x < 256) (hd1 : d1.length = 32) (hdlt : ∀ x ∈ d1, x < 256) (hL : Laid W)
    (hb4 : W.heap[b4]? = some (.cells zeros32 64 (0, 0))) (hbV : W.heap[bV]? = some (.cells (bytesV bk) 112 (0, 0))) (hb9 : W.heap[b9]? = some (.cells (bytesV d1) 64 (0, 0)))
    (hD : D.size = 32) (hDo : D.all (·.oneCell') = true) (hDe : ∀ e : Value, e = .agg (bytesV (Sha.sum (m2 ++ d1))) → e = .agg D)
    (hQ : ∀ a' w', a'.defers = a.defers → a'.eval (.tmp 4) = .pointer (some ⟨b4, 0, none⟩) → (∃ w2, W.grownBy w2 none ∧ w' = w2.setRow b4 D) → w'.heap[b4]? = some (.cells D 64 (0, 0)) → Q .normal a' w') : macRegion.wp Tryd.prog Q a W := by
  have hcf51 : ∀ args w, (callFunc 58 args).run Tryd.prog w = .ok (.enter 58 args) w := fun _ _ => by simp [go_sem]
  have hcf14 : ∀ args w, (callFunc 60 args).run Tryd.prog w = .ok (.enter 60 args) w := fun _ _ => by simp [go_sem]
  have hbs : ∀ (g g' : Nat) (w : World), (Instr.buildSlice 45 2 #[(0, .slice (some ⟨g, 0, none⟩) 64 64), (1, .slice (some ⟨g', 0, none⟩) 32 32)]).run Tryd.prog w = .ok (.slice (some ⟨w.heap.size, 0, none⟩) 2 2) (w.alloc (.cells #[.slice (some ⟨g, 0, none⟩) 64 64, .slice (some ⟨g', 0, none⟩) 32 32] 22)) := fun _ _ _ => by simp [go_sem]
  have HI : (Tryd.prog.info? 64).map (·.size) = some D.size := by rw [hD]; kernel_rfl
  have HIV : (Tryd.prog.info? 112).map (·.size) = some (bytesV bk).size := by rw [bytesV_size, hbk]; kernel_rfl
  have hm2l : m2.length = 64 := by rw [hm2, Hm.mask_len, hbk]
  have hm2t : ∀ x ∈ m2, x < 256 := by rw [hm2]; exact Hm.mask_lt (by decide) hbt
  conv => arg 2; whnf
  refine wp_region_flow 5 (List.range' 29 5) (fun w' => W.grownBy w' none) (fun w w' => w.grownBy w' none) (mrF (bytesV bk) D b9 m2) (by kernel_rfl) (by kernel_rfl) (fun _ _ h k => grown_trans k h) (fun _ _ _ _ h k => mrF_stays h k) ⟨rfl, rfl, rfl, Nat.le_refl _, fun _ _ _ => rfl⟩ ?_ ?_
  · refine ⟨?_, ?_, ?_, ?_, ?_, trivial⟩
    · exact flow_step (fun us w hC hd => wants_free rfl) (fun us w hC hd => ⟨_, w, load_val rfl ((fill_old (by rfl)).trans h5) ((hC.block _ (blk_lt hbV) (by simp)).trans hbV) Tryd.underlying112 rfl HIV, grown_refl _ _, rfl⟩)
    · refine flow_call 58 (fun us => #[us 29, .int .u8 92]) (fun us w hC hd => wants_free rfl) (fun us w => ?_) (fun us w hC hd => ?_)
      · rw [call_enter rfl hcf51, List.map_toArray, List.map_cons, List.map_cons, List.map_nil, fill_tmp (by rfl) (by rw [hsz]; decide)]
        rfl
      · rw [show us 29 = .agg (bytesV bk) from hd 0 (by decide)]
        refine (masked_any bk hbk hbt 92 (by decide) w).mono ?_
        rintro e w' ⟨rfl, hg, hb⟩
        exact ⟨_, rfl, hg, ⟨_, rfl, by rw [hm2]; exact hb⟩⟩
    · exact flow_step (fun us w hC hd => wants_free rfl) (fun us w hC hd => ⟨_, w, slicearr_val rfl ((fill_old (by rfl)).trans h9) Tryd.underlying64 (fun _ => by kernel_rfl), grown_refl _ _, rfl⟩)
    · refine flow_step (fun us w hC hd => wants_free rfl) (fun us w hC hd => ?_)
      obtain ⟨g, e1, e2⟩ : IsRow m2 (us 30) w := hd 1 (by decide)
      have e3 : us 31 = .slice (some ⟨b9, 0, none⟩) 32 32 := hd 2 (by decide)
      exact ⟨_, _, build2_val rfl ((fill_tmp (by rfl) (by rw [hsz]; decide)).trans e1) ((fill_tmp (by rfl) (by rw [hsz]; decide)).trans e3) (hbs _ _ _), World.grownBy_alloc _ _ _, ⟨_, _, rfl, alloc_at _ _, ⟨g, rfl, (alloc_old _ _ _ (blk_lt e2)).trans e2⟩⟩⟩
    · refine flow_call 60 (fun us => #[us 32]) (fun us w hC hd => wants_free rfl) (fun us w => by rw [call_enter rfl hcf14, List.map_toArray, List.map_cons, List.map_nil, fill_tmp (by rfl) (by rw [hsz]; decide)]) (fun us w hC hd => ?_)
      obtain ⟨g, x1, e1, e2, g1, rfl, e3⟩ : ∃ g x1, us 32 = .slice (some ⟨g, 0, none⟩) 2 2 ∧ w.heap[g]? = some (.cells #[x1, .slice (some ⟨b9, 0, none⟩) 32 32] 22 (0, 0)) ∧ IsRow m2 x1 w := hd 3 (by decide)
      rw [e1]
      have hB1 := Bytes.lit (w := w) (g := g1) (l := m2) (t := 112) (fr := (0, 0)) (by rw [e3]; rfl) hm2t
      rw [hm2l] at hB1
      have hB2 := Bytes.lit (w := w) (g := b9) (l := d1) (t := 64) (fr := (0, 0)) (by rw [hC.block _ (blk_lt hb9) (by simp), hb9]; rfl) hdlt
      rw [hd1] at hB2
      have ef : [m2, d1].flatten = m2 ++ d1 := by simp
      refine (psum_any [m2, d1] (some ⟨g, 0, none⟩) g 0 2 2 rfl w (fun _ => ⟨rfl, blk_lt e2⟩) (fun i hi => ?_) (by rw [ef, List.length_append, hm2l, hd1]; decide) (by decide) (hL.grown hC (by simp) (by simp))).mono ?_
      · match i, hi with
        | 0, _ => exact ⟨_, cell_blk e2 0 rfl, hB1⟩
        | 1, _ => exact ⟨_, cell_blk e2 1 rfl, hB2⟩
      · rintro e w' ⟨rfl, hg⟩
        rw [ef]
        exact ⟨_, rfl, hg, hDe _ rfl⟩
  · intro us w' hC hF
    have f4 : us 33 = .agg D := hF 4 (by decide)
    have hb4' := (hC.block _ (blk_lt hb4) (by simp)).trans hb4
    refine wpList_store_row (by rfl) 64 (.tmp 4) (.tmp 33) (by rfl) b4 D ((fill_old (by rfl)).trans h4) ((fill_tmp (by rfl) (by rw [hsz]; decide)).trans f4) _ _ hb4' HI (by rw [hD]; rfl) hDo ?_
    exact hQ _ _ rfl ((fill_old (by rfl)).trans h4) ⟨w', hC, rfl⟩ (setRow_heap _ _ _ D _ _ hb4')
end Go.Proofs.YtgdnndapmcjoeaaDoor
namespace Go.Proofs.YtgdnndapmcjoeaaDoor
open Go.RowKit
set_option maxRecDepth 100000 in
set_option maxHeartbeats 400000 in
theorem macSum_any (vk : Value) (k : List Nat) (parts : List (List Nat)) (a : Option Addr) (sb so n c : Nat) (hn : parts.length = n) (w : World) (hK : Bytes w vk k) (hk : k.length < 1152921504606846000)
    (ha : 0 < n → a = some ⟨sb, so, none⟩ ∧ sb < w.heap.size) (hP : PartsAt w sb so parts) (hM : parts.flatten.length < 1152921504606840000) (hnn : n < 1152921504606846000) (hL : Laid w) :
    Calls Tryd.prog 43 #[vk, .slice a n c] w fun e w' => e = .returned (.agg (bytesV (Hm.hmac k parts.flatten))) ∧ w.grownBy w' none := by
  have hz32 := zeros32_at w
  have hz64 : ∀ w, (zeroValue 112).run Tryd.prog w = .ok (.agg zeros64) w := fun _ => by kernel_rfl
  obtain ⟨bk, hbk⟩ : ∃ b, b = Hm.blk k := ⟨_, rfl⟩
  have hbl : bk.length = 64 := by rw [hbk, Hm.blk_len]
  have hbt : ∀ x ∈ bk, x < 256 := by rw [hbk]; exact Hm.blk_lt hK.lt
  obtain ⟨m1, hm1⟩ : ∃ m, m = Hm.mask 54 bk := ⟨_, rfl⟩
  obtain ⟨m2, hm2⟩ : ∃ m, m = Hm.mask 92 bk := ⟨_, rfl⟩
  have hl1 : m1.length = 64 := by rw [hm1, Hm.mask_len, hbl]
  have ht1 : ∀ x ∈ m1, x < 256 := by rw [hm1]; exact Hm.mask_lt (by decide) hbt
  obtain ⟨d1, hd1⟩ : ∃ d, d = Sha.sum (m1 ++ parts.flatten) := ⟨_, rfl⟩
  obtain ⟨D, hD⟩ : ∃ D, D = bytesV (Sha.sum (m2 ++ d1)) := ⟨_, rfl⟩
  have hdl : d1.length = 32 := by rw [hd1, Sha.sum_len]
  have hdt : ∀ x ∈ d1, x < 256 := by rw [hd1]; exact sum_lt' _
  have hDl : D.size = 32 := by rw [hD, bytesV_size, Sha.sum_len]
  have hDo : D.all (·.oneCell') = true := by rw [hD]; exact bytesV_one _
  have hDe : ∀ e : Value, e = .agg (bytesV (Sha.sum (m2 ++ d1))) → e = .agg D := fun e h => by rw [hD]; exact h
  have hgoal : bytesV (Hm.hmac k parts.flatten) = D := by rw [hD, hd1, hm1, hm2, hbk]; rfl
  rw [hgoal]
  obtain ⟨w0, hw0⟩ : ∃ w0, w0 = w.alloc (.cells zeros32 64) := ⟨_, rfl⟩
  have B0 : Hid (w0.heap[w.heap.size]? = some (.cells zeros32 64 (0, 0))) := Lib.hid (by rw [hw0]; exact alloc_at _ _)
  have G0 : Hid (w.grownBy w0 none) := Lib.hid (by rw [hw0]; exact World.grownBy_alloc _ _ _)
  have HW0 := Lib.hid hw0
  have HST : Hid (Calls Tryd.prog 55 #[vk] w0 fun e w' => e = .returned (.agg (bytesV bk)) ∧ w0.grownBy w' none) := Lib.hid (by rw [hbk]; exact stretch_any vk k w0 (hK.grown G0.out) hk (hL.grown G0.out (by simp) (by simp)))
  have HSM : Hid (∀ (s : Sha.HS) (wr : World) (b : Nat), Sha.Rep s (m1 ++ parts.flatten) → 29 < b → IsHash wr b s → Laid wr → Calls Tryd.prog 59 #[.pointer (some ⟨b, 0, none⟩)] wr fun e w' => e = .returned (.agg (bytesV d1)) ∧ wr.grownBy w' none) :=
    Lib.hid (fun s wr b hR hb hH hL => by rw [hd1]; exact hsum_any s _ hR (by rw [List.length_append, hl1]; omega) b hb wr hH hL)
  have HIV : Hid ((Tryd.prog.info? 112).map (·.size) = some (bytesV bk).size) := by rw [bytesV_size, hbl]; exact Lib.hid (by kernel_rfl)
  have HIW : Hid (zeros64.size = (bytesV bk).size) := by rw [bytesV_size, hbl]; exact Lib.hid (by rw [zeros64, bytesV_size]; exact List.length_replicate ..)
  have HI3 : Hid ((Tryd.prog.info? 64).map (·.size) = some (bytesV d1).size) := by rw [bytesV_size, hdl]; exact Lib.hid (by kernel_rfl)
  have HI4 : Hid (zeros32.size = (bytesV d1).size) := by rw [bytesV_size, hdl]; exact Lib.hid rfl
  have HI5 : Hid ((Tryd.prog.info? 64).map (·.size) = some D.size) := by rw [hDl]; exact Lib.hid (by kernel_rfl)
  have HMK : Hid (∀ w, Calls Tryd.prog 58 #[.agg (bytesV bk), .int .u8 54] w fun e w' => e = .returned (.slice (some ⟨w.heap.size, 0, none⟩) 64 64) ∧ w.grownBy w' none ∧ w'.heap[w.heap.size]? = some (.cells (bytesV m1) 112 (0, 0))) := Lib.hid (fun w => by rw [hm1]; exact masked_any bk hbl hbt 54 (by decide) w)
  have Hbl := Lib.hid hbl
  have Hbt := Lib.hid hbt
  have Hm2 := Lib.hid hm2
  have Hl1 := Lib.hid hl1
  have Ht1 := Lib.hid ht1
  have Hdl := Lib.hid hdl
  have Hdt := Lib.hid hdt
  have HDl := Lib.hid hDl
  have HDo := Lib.hid hDo
  have HDe := Lib.hid hDe
  have HL := Lib.hid hL
  have HP := Lib.hid hP
  have Ha := Lib.hid ha
  have Hn := Lib.hid hn
  have HM := Lib.hid hM
  have hsz : Hid (29 < w.heap.size) := Lib.hid (by have := hL.size; omega)
  clear hw0 hbk hbl hbt hm1 hm2 hl1 ht1 hd1 hD hdl hdt hDl hDo hDe hgoal hK hk hL hP ha hn hM
  go_enter Tryd.func43, Tryd.ntmps43
  go_wp2_with (first
    | (go_at_call 55; rw [← HW0.out]; refine HST.out.mono ?_; rintro e w1 ⟨rfl, hg1⟩; have G1 := Lib.hid (grown_trans G0.out hg1); have B1 := Lib.hid ((hg1.block _ (blk_lt B0.out) (by simp)).trans B0.out); have Z1 := Lib.hid (alloc_at w1 (.cells zeros64 112)); clear hg1)
    | (refine wpList_store_row (by rfl) 112 (.tmp 5) (.tmp 11) (by rfl) w1.heap.size (bytesV bk) (by rfl) (by rfl) _ _ Z1.out HIV.out HIW.out (bytesV_one _) ?_; obtain ⟨W2, hW2⟩ : ∃ W2, W2 = (w1.alloc (.cells zeros64 112)).setRow w1.heap.size (bytesV bk) := ⟨_, rfl⟩; rw [← hW2]; have g2 : Hid (w1.grownBy W2 none) := Lib.hid (by rw [hW2]; exact grown_setRow (World.grownBy_alloc _ _ _) (Nat.le_refl _) _); have V2 : Hid (W2.heap[w1.heap.size]? = some (.cells (bytesV bk) 112 (0, 0))) := Lib.hid (by rw [hW2]; exact setRow_heap _ _ _ _ _ _ Z1.out); clear hW2)
    | (go_at_call 56; refine (new_any W2).mono ?_; rintro e w3 ⟨rfl, hw3⟩; have g3 : Hid (W2.grownBy w3 none) := Lib.hid (by rw [hw3]; exact World.grownBy_alloc _ _ _); have H3 : Hid (IsHash w3 W2.heap.size ⟨⟨0, 0, 0, 0, 0, 0, 0, 0⟩, 0, List.replicate 64 0, 0⟩) := Lib.hid (by rw [hw3]; exact alloc_at _ _); clear hw3; have V3 := Lib.hid ((g3.out.block _ (blk_lt V2.out) (by simp)).trans V2.out))
    | (refine wpList_load_row (by rfl) 112 (.tmp 5) (by rfl) w1.heap.size (by rfl) _ (bytesV bk) (0, 0) _ V3.out Tryd.underlying112 (by rfl) HIV.out ?_)
    | (go_at_call 58; refine (HMK.out w3).mono ?_; rintro e w4 ⟨rfl, hg4, hb4⟩; have g4 := Lib.hid hg4; have B4 := Lib.hid hb4; have H4 := Lib.hid (H3.out.grown hg4 (by simp)); have G4 := Lib.hid (grown_trans G1.out (grown_trans g2.out (grown_trans g3.out hg4))); clear hg4 hb4)
    | (go_at_call 57; refine (write_core _ [] Sha.rep_new W2.heap.size (by have := hsz.out; have := G1.out.size; have := g2.out.size; omega) w4 H4.out (HL.out.grown G4.out (by simp) (by simp)) m1 Ht1.out (by rw [Hl1.out]; decide) (some ⟨w3.heap.size, 0, none⟩) w3.heap.size 0 64 64 Hl1.out (by decide) (fun _ => ⟨rfl, blk_lt B4.out, by have := H3.out.lt; omega⟩) (fun j hj => by rw [Nat.zero_add]; exact cell_blk B4.out j (bytesV_at m1 j (by rw [Hl1.out]; exact hj))) (by decide)).mono ?_; rintro e w5 ⟨rfl, hg5, s5, hH5, hR5⟩; have g5 := Lib.hid hg5; have H5 := Lib.hid hH5; have R5 := Lib.hid hR5; clear hg5 hH5 hR5))
  have hbw : Hid (w.heap.size < w1.heap.size ∧ w1.heap.size < W2.heap.size) := Lib.hid ⟨blk_lt B1.out, blk_lt V2.out⟩
  have Hrb : Hid (29 < W2.heap.size) := Lib.hid (by have := hsz.out; have := hbw.out; omega)
  have hW4 : Hid (W2.heap.size < w4.heap.size) := Lib.hid H4.out.lt
  have G5 : Hid (w.grownBy w5 none) := Lib.hid (grown_forget G4.out (by have := hbw.out; omega) g5.out)
  have B5 : Hid (w5.heap[w.heap.size]? = some (.cells zeros32 64 (0, 0))) := Lib.hid ((g5.out.block _ (by have := hbw.out; have := hW4.out; omega) (fun e => by have := Option.some.inj e; have := hbw.out; omega)).trans (((grown_trans g2.out (grown_trans g3.out g4.out)).block _ (blk_lt B1.out) (by simp)).trans B1.out))
  have V5 : Hid (w5.heap[w1.heap.size]? = some (.cells (bytesV bk) 112 (0, 0))) := Lib.hid ((g5.out.block _ (by have := hbw.out; have := hW4.out; omega) (fun e => by have := Option.some.inj e; have := hbw.out; omega)).trans ((g4.out.block _ (blk_lt V3.out) (by simp)).trans V3.out))
  clear G1 B1 Z1 g2 V2 g3 H3 V3 g4 B4 H4 G4 g5
  go_loopw [19] (fun i wr => ∃ (k : Nat) (s : Sha.HS), k ≤ n ∧ i = .int .i64 k ∧ w.grownBy wr none ∧ IsHash wr W2.heap.size s ∧ Sha.Rep s (m1 ++ (parts.take k).flatten) ∧ wr.heap[w.heap.size]? = some (.cells zeros32 64 (0, 0)) ∧ wr.heap[w1.heap.size]? = some (.cells (bytesV bk) 112 (0, 0))) (fun i _ => n - (intOf i).toNat)
  case atStart => exact ⟨0, _, Nat.zero_le _, rfl, G5.out, H5.out, by simpa using R5.out, B5.out, V5.out⟩
  case round =>
    obtain ⟨k, s, hk, rfl, hg, hH, hR, hB, hV⟩ := hrel
    have HLr := Lib.hid (HL.out.grown hg (by simp) (by simp))
    by_cases hkn : k < n
    · obtain ⟨ha1, ha2⟩ := Ha.out (by omega)
      subst ha1
      obtain ⟨v, hv, hBy⟩ := HP.out k (by rw [Hn.out]; exact hkn)
      have hc : wr.cell? ⟨sb, so + k, none⟩ = some v := by rw [World.cell?_of_block (hg.block sb ha2 (by simp))]; exact hv
      have hft := flatten_take parts k (by rw [Hn.out]; exact hkn)
      have hW := write_bytes s _ hR W2.heap.size Hrb.out w wr hg (by have := hbw.out; omega) hH HLr.out v _ hBy (by
        have := flatten_len parts (k + 1)
        rw [hft, List.length_append] at this
        rw [List.length_append, Hl1.out]
        have := HM.out
        omega)
      rw [List.append_assoc, ← hft] at hW
      have HWr := Lib.hid hW
      have HG := Lib.hid hg
      have HB := Lib.hid hB
      have HV := Lib.hid hV
      have HHl := Lib.hid hH.lt
      clear hg hH hR hB hV ha2 hv hBy hft hW
      go_wp2_with (go_at_call 57; refine HWr.out.mono ?_; rintro e w6 ⟨rfl, hg6, s6, hH6, hR6⟩; have HG6 := Lib.hid hg6; have HH6 := Lib.hid hH6; have HR6 := Lib.hid hR6; clear hg6 hH6 hR6)
      go_roundw
      case rel => exact ⟨k + 1, s6, by omega, by go_num, grown_forget HG.out (by have := hbw.out; omega) HG6.out, HH6.out, HR6.out, (HG6.out.block _ (blk_lt HB.out) (fun e => by have := Option.some.inj e; have := hbw.out; omega)).trans HB.out, (HG6.out.block _ (blk_lt HV.out) (fun e => by have := Option.some.inj e; have := hbw.out; omega)).trans HV.out⟩
      case measure => simp [intOf]; omega
    · obtain rfl : k = n := by omega
      rw [List.take_of_length_le (by rw [Hn.out]; exact Nat.le_refl _)] at hR
      have HS := Lib.hid (HSM.out s wr W2.heap.size hR Hrb.out hH HLr.out)
      have HG := Lib.hid hg
      have HB := Lib.hid hB
      have HV := Lib.hid hV
      clear hg hH hR hB hV
      go_wp2_with (first
        | (go_at_call 59; refine HS.out.mono ?_; rintro e w6 ⟨rfl, hg6⟩; have HG6 := Lib.hid hg6; have Z6 := Lib.hid (alloc_at w6 (.cells zeros32 64)); clear hg6)
        | (refine wpList_store_row (by rfl) 64 (.tmp 9) (.tmp 28) (by rfl) w6.heap.size (bytesV d1) (by rfl) (by rfl) _ _ Z6.out HI3.out HI4.out (bytesV_one _) ?_; obtain ⟨W7, hW7⟩ : ∃ W7, W7 = (w6.alloc (.cells zeros32 64)).setRow w6.heap.size (bytesV d1) := ⟨_, rfl⟩; rw [← hW7]; have g7 : Hid (w6.grownBy W7 none) := Lib.hid (by rw [hW7]; exact grown_setRow (World.grownBy_alloc _ _ _) (Nat.le_refl _) _); have b7 : Hid (W7.heap[w6.heap.size]? = some (.cells (bytesV d1) 64 (0, 0))) := Lib.hid (by rw [hW7]; exact setRow_heap _ _ _ _ _ _ Z6.out); clear hW7))
      have gr7 := grown_trans HG6.out g7.out
      refine mac_region _ bk m2 d1 D w.heap.size w1.heap.size w6.heap.size W7 _ rfl rfl rfl rfl Hbl.out Hm2.out Hbt.out Hdl.out Hdt.out (HLr.out.grown gr7 (by simp) (by simp)) ((gr7.block _ (blk_lt HB.out) (by simp)).trans HB.out) ((gr7.block _ (blk_lt HV.out) (by simp)).trans HV.out) b7.out HDl.out HDo.out HDe.out (fun a' w' hd h4 hgr hb => ?_)
      obtain ⟨w8, hg8, rfl⟩ := hgr
      go_wp2
      refine bodyPost_ret (v := .agg D) ?_ hd ⟨rfl, grown_setRow (grown_trans (grown_trans HG.out gr7) hg8) (Nat.le_refl _) _⟩
      exact results_cell_row Tryd.results43 _ _ w.heap.size _ _ (0, 0) _ h4 hb Tryd.underlying64 rfl HI5.out
end Go.Proofs.YtgdnndapmcjoeaaDoor
namespace Go.Proofs.YtgdnndapmcjoeaaDoor
open Go.RowKit
section
variable {P : Program} {ops : Array Oper} {rest : List Oper} {o : Oper} {a : Act} {w : World} {Q : Exit → Act → World → Prop}
theorem grown_bytesWorld (w : World) (e : TypeId) (s : ByteArray) : w.grownBy (Lib.bytesWorld w e s) none :=
  ⟨by simp [Lib.bytesWorld, World.freeze]; rfl, by simp [Lib.bytesWorld, World.freeze], by simp [Lib.bytesWorld, World.freeze]; rfl, by rw [Lib.bytesWorld_size]; omega, fun k hk _ => Lib.bytesWorld_at_old w e s k hk⟩
/-- '[]byte(s)', s a text. -/
theorem wpList_strB (hgd : o.guard = none) (t u : TypeId) (x : Operand) (ho : o.op = .convert t u x) {e : TypeId} {d : TypeDesc} (ht : P.underlying t = some d) (hu : P.underlying u = some (.slice e)) (he : P.underlying e = some (.int .u8))
    (s : ByteArray) (hx : a.eval x = .string s) (h : ∀ c w', w.grownBy w' none → Bytes w' (.slice (some ⟨w.heap.size, 0, none⟩) s.size c) (strL s) → wpList P ops Q rest (a.put o.dst (.slice (some ⟨w.heap.size, 0, none⟩) s.size c)) w') : wpList P ops Q (o :: rest) a w := by
  have hr := Lib.run_convert_string_bytes (P := P) w t u e s ht hu he
  refine wpList_plain hgd fun K hK => ?_
  unfold Oper.wp execOp
  simp only [ho, Sem.run_bind, Sem.run_pure, Result.andThen_ok, hx, hr]
  refine hK _ _ (h _ _ (grown_bytesWorld w e s) ⟨strL_lt s, some ⟨w.heap.size, 0, none⟩, w.heap.size, 0, _, by rw [strL_len], by rw [strL_len]; exact grownCap_ge _ _ _ _, fun _ => ⟨rfl, by rw [Lib.bytesWorld_size]; omega⟩, fun j hj => ?_⟩)
  rw [Nat.zero_add, Lib.bytesWorld_cell w e s j (by rw [← strL_len]; exact hj)]
  congr 3
  simp [strL]
  cases s.data[j]? <;> rfl
end
theorem id_lt : ∀ x ∈ [2, 105, 100, 0], x < 256 := by decide
set_option maxRecDepth 100000 in
set_option maxHeartbeats 400000 in
theorem refFrame_id (w : World) :
    Calls Tryd.prog 20 #[.string ⟨#[105, 100]⟩, .slice none 0 0] w fun e w' => ∃ v, e = .returned (.tuple #[v, .int .i64 0]) ∧ FrW w w' v [2, 105, 100, 0] := by
  have hsl : strL ⟨#[105, 100]⟩ = [105, 100] := rfl
  have F1 : Hid (FrW w (w.alloc (.cells #[.int .u8 2] 5)) (.slice (some ⟨w.heap.size, 0, none⟩) 1 1) [2]) := Lib.hid ⟨World.grownBy_alloc _ _ _, ownsRow_lit (alloc_at w _) (Nat.le_refl _) (by simp)⟩
  have HSL := Lib.hid hsl
  clear hsl
  go_enter Tryd.func20, Tryd.ntmps20
  go_wp2
  refine wp_loop_rounds 3 ?_
  rw [rounds_succ]
  go_wp2
  rw [rounds_succ]
  go_wp2
  rw [rounds_succ]
  go_wp2_with (first
    | (refine wpList_strB (by rfl) 9 22 (.tmp 55) (by rfl) Tryd.underlying9 Tryd.underlying22 Tryd.underlying5 ⟨#[105, 100]⟩ (by rfl) ?_; intro c2 w2 hg2 hb2; rw [HSL.out] at hb2; have B2 := Lib.hid hb2; have F2 : Hid (FrW w w2 (.slice (some ⟨w.heap.size, 0, none⟩) 1 1) [2]) := Lib.hid ⟨grown_trans F1.out.grown hg2, F1.out.own.kept hg2 (Classical.em _)⟩; clear hg2 hb2)
    | (at_builtin; refine wpList_appB (by rfl) (.tmp 54) (.tmp 56) 22 (by rfl) w.heap.size 5 (.int .u8 0) 1 Tryd.underlying22 (by kernel_rfl) rfl (by decide) _ _ _ (by rfl) F2.out.own _ [105, 100] (by rfl) B2.out (Whole0.some _ _ _) (by decide) F2.out.le ?_; intro v3 w3 ho3 hg3; have F3 := Lib.hid (F2.out.step (l' := [2, 105, 100]) ho3 hg3 rfl); clear ho3 hg3)
    | (at_builtin; refine wpList_appB (by rfl) (.tmp 58) (.tmp 62) 22 (by rfl) w.heap.size 5 (.int .u8 0) 1 Tryd.underlying22 (by kernel_rfl) rfl (by decide) v3 _ _ (by rfl) (F3.out.own.alloc _) _ [0] (by rfl) (Bytes.lit (alloc_at w3 _) (by decide)) (Whole0.some _ _ _) (by decide) (by have := F3.out.le; rw [alloc_size]; omega) ?_; intro v4 w4 ho4 hg4; have F4 := Lib.hid ((F3.out.alloc _).step (l' := [2, 105, 100, 0]) ho4 hg4 rfl); clear ho4 hg4))
  refine wp_loop_rounds 1 ?_
  rw [rounds_succ]
  go_wp2
  go_ret2
  exact ⟨_, rfl, F4.out⟩
end Go.Proofs.YtgdnndapmcjoeaaDoor
