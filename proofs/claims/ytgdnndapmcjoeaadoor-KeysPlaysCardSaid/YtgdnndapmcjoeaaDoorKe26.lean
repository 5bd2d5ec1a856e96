import Derived.Test.YtgdnndapmcjoeaaDoorKe24
import Derived.Test.YtgdnndapmcjoeaaDoorKe25
namespace Go.Proofs.YtgdnndapmcjoeaaDoor
open Go.RowKit
section
variable {P : Program} {ops : Array Oper} {rest : List Oper} {o : Oper} {a : Act} {w : World} {Q : Exit → Act → World → Prop}
theorem put_size {d : Nat} {v : Value} : (a.put (some d) v).tmps.size = a.tmps.size := by
  show (a.tmps.setIfInBounds d v).size = _
  simp
theorem put_new {d : Nat} {v : Value} (h : d < a.tmps.size) : (a.put (some d) v).eval (.tmp d) = v := put_get h
theorem put_old {d e : Nat} {v : Value} (h : d ≠ e) : (a.put (some d) v).eval (.tmp e) = a.eval (.tmp e) := by
  show (a.tmps.setIfInBounds d v).getD e undef = a.tmps.getD e undef
  simp [Array.getElem?_setIfInBounds_ne h]
/-- A call by its contract, in a list. -/
theorem wpList_call (hg : o.guard = none) (f : FuncId) {args : Array Value} (hr : (execOp a.eval o).run P w = .ok (.enter f args) w)
    (h : Calls P f args w fun e w' => ∃ v, e = .returned v ∧ wpList P ops Q rest (a.put o.dst v) w') : wpList P ops Q (o :: rest) a w := by
  refine wpList_plain hg fun K hK => ?_
  unfold Oper.wp
  rw [hr]
  refine h.mono ?_
  rintro e w' ⟨v, rfl, h1⟩
  exact hK _ _ h1
end
/-- What the region's first three operations hand back. -/
def hrF (W : World) (vk : Value) (b5 : Nat) (m : List Nat) (j : Nat) (x : Value) (w : World) : Prop :=
  if j = 0 then x = vk else if j = 1 then FrW W w x m else x = .slice (some ⟨b5, 0, none⟩) 32 32
theorem hrF_stays {W : World} {vk : Value} {b5 : Nat} {m : List Nat} {j : Nat} {x : Value} {w w' : World} (hg : w.grownBy w' none) (h : hrF W vk b5 m j x w) : hrF W vk b5 m j x w' := by
  unfold hrF at h ⊢
  by_cases h0 : j = 0
  · rw [if_pos h0] at h ⊢; exact h
  · rw [if_neg h0] at h ⊢
    by_cases h1 : j = 1
    · rw [if_pos h1] at h ⊢; exact ⟨grown_trans h.grown hg, h.own.kept hg (Classical.em _)⟩
    · rw [if_neg h1] at h ⊢; exact h
noncomputable def refRegion : Code := regionAt Tryd.f35.body 2
set_option linter.unusedVariables false
set_option maxRecDepth 100000 in
set_option maxHeartbeats 400000 in
theorem ref_region (a : Act) (D : Array Value) (vk : Value) (m d1 : List Nat) (b4 b5 : Nat) (W : World) (Q : Exit → Act → World → Prop) (hsz : a.tmps.size = 16)
    (h0 : a.eval (.tmp 0) = vk) (h4 : a.eval (.tmp 4) = .pointer (some ⟨b4, 0, none⟩)) (h5 : a.eval (.tmp 5) = .pointer (some ⟨b5, 0, none⟩)) (hm : m.length = 64) (hmlt : ∀ x ∈ m, x < 256) (hd1 : d1.length = 32) (hdlt : ∀ x ∈ d1, x < 256)
    (hb4 : W.heap[b4]? = some (.cells zeros32 64 (0, 0))) (hb5 : W.heap[b5]? = some (.cells (bytesV d1) 64 (0, 0))) (hD : D.size = 32) (hDo : D.all (·.oneCell') = true)
    (hW : ∀ w, W.grownBy w none → Calls Tryd.prog 50 #[vk, .int .u8 92] w fun e w' => ∃ u, e = .returned u ∧ FrW w w' u m)
    (hS : ∀ w v, Bytes w v (m ++ d1) → Whole0 v → Calls Tryd.prog 49 #[v] w fun e w' => e = .returned (.agg D) ∧ w.grownBy w' none)
    (hQ : ∀ a' w', a'.defers = a.defers → a'.eval (.tmp 4) = .pointer (some ⟨b4, 0, none⟩) → (∃ w2, W.grownBy w2 none ∧ w' = w2.setRow b4 D) → w'.heap[b4]? = some (.cells D 64 (0, 0)) → Q .normal a' w') : refRegion.wp Tryd.prog Q a W := by
  have hcf52 : ∀ args w, (callFunc 50 args).run Tryd.prog w = .ok (.enter 50 args) w := fun _ _ => by simp [go_sem]
  have hcf15 : ∀ args w, (callFunc 49 args).run Tryd.prog w = .ok (.enter 49 args) w := fun _ _ => by simp [go_sem]
  have HI : (Tryd.prog.info? 64).map (·.size) = some D.size := by rw [hD]; kernel_rfl
  conv => arg 2; whnf
  refine wp_region_flow 3 (List.range' 11 3) (fun w' => W.grownBy w' none) (fun w w' => w.grownBy w' none) (hrF W vk b5 m) (by kernel_rfl) (by kernel_rfl) (fun _ _ h k => grown_trans k h) (fun _ _ _ _ h k => hrF_stays h k) ⟨rfl, rfl, rfl, Nat.le_refl _, fun _ _ _ => rfl⟩ ?_ ?_
  · refine ⟨?_, ?_, ?_, trivial⟩
    · exact flow_step (fun us w hC hd => wants_free rfl) (fun us w hC hd => ⟨_, w, move_val rfl ((fill_old (by rfl)).trans h0), grown_refl _ _, rfl⟩)
    · refine flow_call 50 (fun us => #[us 11, .int .u8 92]) (fun us w hC hd => wants_free rfl) (fun us w => ?_) (fun us w hC hd => ?_)
      · rw [call_enter rfl hcf52, List.map_toArray, List.map_cons, List.map_cons, List.map_nil, fill_tmp (by rfl) (by rw [hsz]; decide)]
        rfl
      · rw [show us 11 = vk from hd 0 (by decide)]
        refine (hW w hC).mono ?_
        rintro e w' ⟨u, rfl, hF⟩
        exact ⟨u, rfl, hF.grown, ⟨grown_trans hC hF.grown, ownsRow_base hF.own hC.size⟩⟩
    · exact flow_step (fun us w hC hd => wants_free rfl) (fun us w hC hd => ⟨_, w, slicearr_val rfl ((fill_old (by rfl)).trans h5) Tryd.underlying64 (fun _ => by kernel_rfl), grown_refl _ _, rfl⟩)
  · intro us w' hC hF
    have f1 : FrW W w' (us 12) m := hF 1 (by decide)
    have f2 : us 13 = .slice (some ⟨b5, 0, none⟩) 32 32 := hF 2 (by decide)
    have e12 : (fill a (List.range' 11 3) us).eval (.tmp 12) = us 12 := fill_tmp (by rfl) (by rw [hsz]; decide)
    have e13 : (fill a (List.range' 11 3) us).eval (.tmp 13) = .slice (some ⟨b5, 0, none⟩) 32 32 := (fill_tmp (by rfl) (by rw [hsz]; decide)).trans f2
    have hB := Bytes.lit (w := w') (g := b5) (l := d1) (t := 64) (fr := (0, 0)) (by rw [hC.block _ (blk_lt hb5) (by simp), hb5]; rfl) hdlt
    rw [hd1] at hB
    refine wpList_appB (by rfl) (.tmp 12) (.tmp 13) 22 (by rfl) W.heap.size 5 (.int .u8 0) 1 Tryd.underlying22 (by kernel_rfl) rfl (by decide) _ _ _ e12 f1.own _ d1 e13 hB (Whole0.some _ _ _) (by omega) f1.le ?_
    intro v3 w3 ho3 hg3
    have f3 : FrW W w3 v3 (m ++ d1) := f1.step ho3 hg3 (cellsL_append _ _).symm
    have e14 : ((fill a (List.range' 11 3) us).put (some 14) v3).eval (.tmp 14) = v3 := put_new (by rw [fill_size, hsz]; decide)
    refine wpList_call rfl 49 (args := #[v3]) (by rw [call_enter rfl hcf15, List.map_toArray, List.map_cons, List.map_nil]; exact congrArg (fun x => Result.ok (Next.enter 49 #[x]) w3) e14) ?_
    refine (hS w3 v3 (Bytes.own f3.own (fun x hx => (List.mem_append.1 hx).elim (hmlt x) (hdlt x))) (Whole0.own f3.own)).mono ?_
    rintro e w4 ⟨rfl, hg4⟩
    refine ⟨_, rfl, ?_⟩
    have g4 := grown_trans f3.grown hg4
    have hb4' := (g4.block _ (blk_lt hb4) (by simp)).trans hb4
    refine wpList_store_row (by rfl) 64 (.tmp 4) (.tmp 15) (by rfl) b4 D ?_ (put_new (by rw [put_size, fill_size, hsz]; decide)) _ _ hb4' HI (by rw [hD]; rfl) hDo ?_
    · exact ((put_old (by decide)).trans ((put_old (by decide)).trans (fill_old (by rfl)))).trans h4
    · exact hQ _ _ rfl (((put_old (by decide)).trans ((put_old (by decide)).trans (fill_old (by rfl)))).trans h4) ⟨w4, g4, rfl⟩ (setRow_heap _ _ _ D _ _ hb4')
set_option maxRecDepth 100000 in
set_option maxHeartbeats 400000 in
theorem refHmac_any (vk vt : Value) (k t : List Nat) (w : World) (hK : Bytes w vk k) (hK0 : Whole0 vk) (hk : k.length < 1099511620000) (hT : Bytes w vt t) (hT0 : Whole0 vt) (ht : t.length < 1099511610000) :
    Calls Tryd.prog 35 #[vk, vt] w fun e w' => e = .returned (.agg (bytesV (Hm.hmac k t))) ∧ w.grownBy w' none := by
  have hz32 := zeros32_at w
  obtain ⟨m1, hm1⟩ : ∃ m, m = Hm.mask 54 (Hm.blk k) := ⟨_, rfl⟩
  obtain ⟨m2, hm2⟩ : ∃ m, m = Hm.mask 92 (Hm.blk k) := ⟨_, rfl⟩
  have hl1 : m1.length = 64 := by rw [hm1, Hm.mask_len, Hm.blk_len]
  have hl2 : m2.length = 64 := by rw [hm2, Hm.mask_len, Hm.blk_len]
  have ht1 : ∀ x ∈ m1, x < 256 := by rw [hm1]; exact Hm.mask_lt (by decide) (Hm.blk_lt hK.lt)
  have ht2 : ∀ x ∈ m2, x < 256 := by rw [hm2]; exact Hm.mask_lt (by decide) (Hm.blk_lt hK.lt)
  obtain ⟨d1, hd1⟩ : ∃ d, d = Sha.sum (m1 ++ t) := ⟨_, rfl⟩
  obtain ⟨D, hD⟩ : ∃ D, D = bytesV (Sha.sum (m2 ++ d1)) := ⟨_, rfl⟩
  have hdl : d1.length = 32 := by rw [hd1, Sha.sum_len]
  have hdt : ∀ x ∈ d1, x < 256 := by rw [hd1]; exact sum_lt' _
  have hDl : D.size = 32 := by rw [hD, bytesV_size, Sha.sum_len]
  have hDo : D.all (·.oneCell') = true := by rw [hD]; exact bytesV_one _
  have hgoal : bytesV (Hm.hmac k t) = D := by rw [hD, hd1, hm1, hm2]; rfl
  rw [hgoal]
  have W1 : ∀ w', w.grownBy w' none → Calls Tryd.prog 50 #[vk, .int .u8 54] w' fun e w'' => ∃ u, e = .returned u ∧ FrW w' w'' u m1 := fun w' hg => by rw [hm1]; exact with_any vk k 54 (by decide) w' (hK.grown hg) hK0 hk
  have W2 : ∀ w', w.grownBy w' none → Calls Tryd.prog 50 #[vk, .int .u8 92] w' fun e w'' => ∃ u, e = .returned u ∧ FrW w' w'' u m2 := fun w' hg => by rw [hm2]; exact with_any vk k 92 (by decide) w' (hK.grown hg) hK0 hk
  have S1 : ∀ w' v, Bytes w' v (m1 ++ t) → Whole0 v → Calls Tryd.prog 49 #[v] w' fun e w'' => e = .returned (.agg (bytesV d1)) ∧ w'.grownBy w'' none := fun w' v hB h0 => by rw [hd1]; exact refSum_any v _ w' hB h0 (by rw [List.length_append]; omega)
  have S2 : ∀ w' v, Bytes w' v (m2 ++ d1) → Whole0 v → Calls Tryd.prog 49 #[v] w' fun e w'' => e = .returned (.agg D) ∧ w'.grownBy w'' none := fun w' v hB h0 => by rw [hD]; exact refSum_any v _ w' hB h0 (by rw [List.length_append]; omega)
  have HT : Hid (∀ x ∈ t, x < 256) := Lib.hid hT.lt
  have HTB := Lib.hid hT
  have HT0 := Lib.hid hT0
  have Ht1 := Lib.hid ht1
  have Ht2 := Lib.hid ht2
  have Hl1 := Lib.hid hl1
  have Hl2 := Lib.hid hl2
  have Hdl := Lib.hid hdl
  have Hdt := Lib.hid hdt
  have HDl := Lib.hid hDl
  have HDo := Lib.hid hDo
  have HW1 := Lib.hid W1
  have HW2 := Lib.hid W2
  have HS1 := Lib.hid S1
  have HS2 := Lib.hid S2
  have Hht := Lib.hid ht
  have B0 := Lib.hid (alloc_at w (.cells zeros32 64))
  have G0 := Lib.hid (World.grownBy_alloc w (.cells zeros32 64) none)
  have HI3 : Hid ((Tryd.prog.info? 64).map (·.size) = some (bytesV d1).size) := by rw [bytesV_size, hdl]; exact Lib.hid (by kernel_rfl)
  have HI4 : Hid (zeros32.size = (bytesV d1).size) := by rw [bytesV_size, hdl]; exact Lib.hid rfl
  have HI5 : Hid ((Tryd.prog.info? 64).map (·.size) = some D.size) := by rw [hDl]; exact Lib.hid (by kernel_rfl)
  obtain ⟨w0, hw0⟩ : ∃ w0, w0 = w.alloc (.cells zeros32 64) := ⟨_, rfl⟩
  rw [← hw0] at B0 G0
  have HW0 := Lib.hid hw0
  clear hw0 hm1 hm2 hl1 hl2 ht1 ht2 hd1 hD hdl hdt hDl hDo hgoal W1 W2 S1 S2 hK hK0 hT hT0 ht hk
  go_enter Tryd.func35, Tryd.ntmps35
  go_wp2_with (first
    | (go_at_call 50; rw [← HW0.out]; refine (HW1.out w0 G0.out).mono ?_; rintro e w1 ⟨u1, rfl, hF1⟩; have F1 := Lib.hid hF1; clear hF1)
    | (at_builtin; refine wpList_appB (by rfl) (.tmp 7) (.tmp 8) 22 (by rfl) w0.heap.size 5 (.int .u8 0) 1 Tryd.underlying22 (by kernel_rfl) rfl (by decide) u1 _ _ (by rfl) F1.out.own vt t (by rfl) (HTB.out.grown (grown_trans G0.out F1.out.grown)) HT0.out (by rw [Hl1.out]; have := Hht.out; omega) F1.out.le ?_; intro v2 w2 ho2 hg2; have F2 := Lib.hid (F1.out.step (l' := m1 ++ t) ho2 hg2 (cellsL_append _ _).symm); clear ho2 hg2)
    | (go_at_call 49; refine (HS1.out w2 v2 (Bytes.own F2.out.own (fun x hx => (List.mem_append.1 hx).elim (Ht1.out x) (HT.out x))) (Whole0.own F2.out.own)).mono ?_; rintro e w3 ⟨rfl, hg3⟩; have G3 := Lib.hid (grown_trans F2.out.grown hg3); have Z3 := Lib.hid (alloc_at w3 (.cells zeros32 64)); clear hg3)
    | (refine wpList_store_row (by rfl) 64 (.tmp 5) (.tmp 10) (by rfl) w3.heap.size (bytesV d1) (by rfl) (by rfl) _ _ Z3.out HI3.out HI4.out (bytesV_one _) ?_; obtain ⟨W4, hW4⟩ : ∃ W4, W4 = (w3.alloc (.cells zeros32 64)).setRow w3.heap.size (bytesV d1) := ⟨_, rfl⟩; rw [← hW4]; have g4 : Hid (w3.grownBy W4 none) := Lib.hid (by rw [hW4]; exact grown_setRow (World.grownBy_alloc _ _ _) (Nat.le_refl _) _); have b4 : Hid (W4.heap[w3.heap.size]? = some (.cells (bytesV d1) 64 (0, 0))) := Lib.hid (by rw [hW4]; exact setRow_heap _ _ _ _ _ _ Z3.out); clear hW4))
  have g04 := grown_trans G3.out g4.out
  refine ref_region _ D vk m2 d1 w.heap.size w3.heap.size W4 _ rfl rfl rfl rfl Hl2.out Ht2.out Hdl.out Hdt.out ((g04.block _ (blk_lt B0.out) (by simp)).trans B0.out) b4.out HDl.out HDo.out (fun w' hg => HW2.out w' (grown_trans (grown_trans G0.out g04) hg)) HS2.out (fun a' w' hd h4 hgr hb => ?_)
  obtain ⟨w5, hg5, rfl⟩ := hgr
  go_wp2
  refine bodyPost_ret (v := .agg D) ?_ hd ⟨rfl, grown_setRow (grown_trans (grown_trans G0.out g04) hg5) (Nat.le_refl _) _⟩
  exact results_cell_row Tryd.results35 _ _ w.heap.size _ _ (0, 0) _ h4 hb Tryd.underlying64 rfl HI5.out
end Go.Proofs.YtgdnndapmcjoeaaDoor
