import Derived.Test.YtmnnhfinmjaccaaDoorKa28
import Derived.Test.YtmnnhfinmjaccaaDoorKa29
namespace Go.Proofs.YtmnnhfinmjaccaaDoor
open Go.RowKit
/-- Behind a copy into a block of the call's own. -/
theorem grown_copy {w w3 w5 : World} {o : Obj} (h3 : w.grownBy w3 none) (h5 : (w3.alloc o).grownBy w5 (some w3.heap.size)) : w.grownBy w5 none :=
  grown_forget (grown_alloc h3 o) h3.size h5
theorem old_copy {w3 w5 : World} {o : Obj} {b : Nat} {x : Option Obj} (hb : b < w3.heap.size) (h : w3.heap[b]? = x) (h5 : (w3.alloc o).grownBy w5 (some w3.heap.size)) : w5.heap[b]? = x :=
  (h5.block b (by rw [alloc_size]; omega) (fun e => by have := Option.some.inj e; omega)).trans ((alloc_old _ _ _ hb).trans h)
set_option maxRecDepth 100000 in
set_option maxHeartbeats 1000000 in
theorem stretch_any (v : Value) (k : List Nat) (w : World) (hB : Bytes w v k) (hk : k.length < 1152921504606846000) (hL : Laid w) :
    Calls Tryd.prog 55 #[v] w fun e w' => e = .returned (.agg (bytesV (Hm.blk k))) ∧ w.grownBy w' none := by
  have hz64 : ∀ w, (zeroValue 110).run Tryd.prog w = .ok (.agg zeros64) w := fun _ => by kernel_rfl
  have hz32 := zeros32_at w
  have hzl : Hid ((List.replicate 64 0 : List Nat).length = 64) := Lib.hid (List.length_replicate ..)
  obtain ⟨V, hV⟩ : ∃ V, V = bytesV (Hm.blk k) := ⟨_, rfl⟩
  have hVl : V.size = 64 := by rw [hV, bytesV_size, Hm.blk_len]
  have HI1 : Hid ((Tryd.prog.info? 110).map (·.size) = some V.size) := by rw [hVl]; exact Lib.hid (by kernel_rfl)
  have HI2 : Hid (zeros64.size = V.size) := by rw [hVl]; exact Lib.hid (by rw [zeros64, bytesV_size, hzl.out])
  have HO : Hid (V.all (·.oneCell') = true) := by rw [hV]; exact Lib.hid (bytesV_one _)
  rw [← hV]
  have HB := Lib.hid hB
  obtain ⟨hlt, va, vb, vo, vc, rfl, hvc, ha, hcell⟩ := hB
  obtain ⟨m, hm⟩ : ∃ m, m = k.length := ⟨_, rfl⟩
  rw [← hm] at hvc hk HB ⊢
  by_cases hl : 64 < m
  · have hk0 : Hm.key0 k = Sha.sum k := Hm.key0_long (by rw [← hm]; exact hl)
    have hV2 : bytesV (Sha.sum k ++ (List.replicate 64 0).drop (Sha.sum k).length) = V := by rw [hV, Hm.blk, hk0, List.drop_replicate]
    obtain ⟨D, hD⟩ : ∃ D, D = bytesV (Sha.sum k) := ⟨_, rfl⟩
    have hDl : D.size = 32 := by rw [hD, bytesV_size, Sha.sum_len]
    have HI3 : Hid ((Tryd.prog.info? 64).map (·.size) = some D.size) := by rw [hDl]; exact Lib.hid (by kernel_rfl)
    have HI4 : Hid (zeros32.size = D.size) := by rw [hDl]; exact Lib.hid rfl
    have HO1 : Hid (D.all (·.oneCell') = true) := by rw [hD]; exact Lib.hid (bytesV_one _)
    have HS : Hid (Calls Tryd.prog 60 #[.slice (some ⟨w.heap.size + 1, 0, none⟩) 1 1] ((w.alloc (.cells zeros64 110)).alloc (.cells #[.slice va m vc] 22)) fun e w' => e = .returned (.agg D) ∧ w.grownBy w' none ∧ w'.heap[w.heap.size]? = some (.cells zeros64 110 (0, 0))) := Lib.hid (by
      have e : [k].flatten = k := by simp
      obtain ⟨W1, hW1⟩ : ∃ W1, W1 = (w.alloc (.cells zeros64 110)).alloc (.cells #[.slice va m vc] 22) := ⟨_, rfl⟩
      have gW : w.grownBy W1 none := by rw [hW1]; exact grown_alloc (World.grownBy_alloc _ _ _) _
      have b0 : W1.heap[w.heap.size]? = some (.cells zeros64 110 (0, 0)) := by rw [hW1]; exact alloc2_old _ _ _
      have b1 : W1.heap[w.heap.size + 1]? = some (.cells #[.slice va m vc] 22 (0, 0)) := by rw [hW1]; exact alloc2_new _ _ _
      rw [← hW1]
      refine (psum_any [k] (some ⟨w.heap.size + 1, 0, none⟩) (w.heap.size + 1) 0 1 1 rfl W1 (fun _ => ⟨rfl, blk_lt b1⟩) (fun i hi => ?_) (by rw [e, ← hm]; exact hk) (by decide) (hL.grown gW (by simp) (by simp))).mono ?_
      · match i, hi with
        | 0, _ => exact ⟨.slice va m vc, cell_blk b1 0 rfl, HB.out.grown gW⟩
      · rintro e' w' ⟨rfl, hg'⟩
        exact ⟨by rw [e, hD], grown_trans gW hg', (hg'.block _ (blk_lt b0) (by simp)).trans b0⟩)
    have HD := Lib.hid hD
    have HV2 := Lib.hid hV2
    clear hV hk0 hV2 hD hDl hVl hm hlt ha hcell hL
    go_enter Tryd.func55, Tryd.ntmps55
    go_wp2_with (first
      | (go_at_call 60; refine HS.out.mono ?_; rintro e w2 ⟨rfl, hg2, hb2⟩; have G2 := Lib.hid hg2; have B2 := Lib.hid hb2; have Z2 := Lib.hid (alloc_at w2 (.cells zeros32 64)); clear hg2 hb2)
      | (refine wpList_store_row (by rfl) 64 (.tmp 3) (.tmp 10) (by rfl) w2.heap.size D (by rfl) (by rfl) _ _ Z2.out HI3.out HI4.out HO1.out ?_; obtain ⟨W3, hW3⟩ : ∃ W3, W3 = (w2.alloc (.cells zeros32 64)).setRow w2.heap.size D := ⟨_, rfl⟩; rw [← hW3]; have g23 : Hid (w2.grownBy W3 none) := Lib.hid (by rw [hW3]; exact grown_setRow (World.grownBy_alloc _ _ _) (Nat.le_refl _) _); have b3 : Hid (W3.heap[w2.heap.size]? = some (.cells D 64 (0, 0))) := Lib.hid (by rw [hW3]; exact setRow_heap _ _ _ _ _ _ Z2.out); clear hW3)
      | (refine wpList_copyB (by rfl) (.tmp 12) (.tmp 13) 22 22 (by rfl) Tryd.underlying22 (by kernel_rfl) (b := W3.heap.size) (N := 64) (Z := List.replicate 64 0) (l := Sha.sum k) (T := 110) (v := .slice (some ⟨w2.heap.size, 0, none⟩) 32 32) (by rfl) (by rfl) (alloc_at W3 _) hzl.out (by have hB5 := Bytes.lit (w := W3.alloc (.cells zeros64 110)) (g := w2.heap.size) (l := Sha.sum k) (t := 64) (fr := (0, 0)) (by rw [alloc_old _ _ _ (blk_lt b3.out), b3.out, HD.out]; rfl) (sum_lt' k); rw [Sha.sum_len] at hB5; exact hB5) (by rw [Sha.sum_len]; decide) ?_; intro w5 hb5 hg5; rw [HV2.out] at hb5; have B5 := Lib.hid hb5; have G5 := Lib.hid (grown_copy (grown_trans G2.out g23.out) hg5); have X5 := Lib.hid (old_copy (Nat.lt_of_lt_of_le (blk_lt B2.out) g23.out.size) ((g23.out.block _ (blk_lt B2.out) (by simp)).trans B2.out) hg5); clear hb5 hg5)
      | (refine wpList_load_row (by rfl) 110 (.tmp 4) (by rfl) W3.heap.size (by rfl) _ V (0, 0) _ B5.out Tryd.underlying110 (by rfl) HI1.out ?_)
      | (refine wpList_store_row (by rfl) 110 (.tmp 2) (.tmp 15) (by rfl) w.heap.size V (by rfl) (by rfl) _ _ X5.out HI1.out HI2.out HO.out ?_))
    refine bodyPost_ret (v := .agg V) ?_ rfl ⟨rfl, grown_setRow G5.out (Nat.le_refl _) _⟩
    exact results_cell_row Tryd.results55 _ _ w.heap.size _ _ (0, 0) _ rfl (setRow_heap _ _ _ V _ _ X5.out) Tryd.underlying110 rfl HI1.out
  · have hk0 : Hm.key0 k = k := Hm.key0_short (by rw [← hm]; exact hl)
    have hV2 : bytesV (k ++ (List.replicate 64 0).drop k.length) = V := by rw [hV, Hm.blk, hk0, List.drop_replicate]
    have HV2 := Lib.hid hV2
    have Hm' := Lib.hid hm
    have B1 := Lib.hid (alloc2_old w (.cells zeros64 110) (.cells zeros64 110))
    have hml : m ≤ 64 := by omega
    clear hV hk0 hV2 hVl hm hlt ha hcell hL
    go_enter Tryd.func55, Tryd.ntmps55
    go_wp2_with (first
      | (refine wpList_copyB (by rfl) (.tmp 12) (.tmp 13) 22 22 (by rfl) Tryd.underlying22 (by kernel_rfl) (b := w.heap.size + 1) (N := 64) (Z := List.replicate 64 0) (l := k) (T := 110) (v := .slice va m vc) (by rfl) (by rfl) (alloc2_new w _ _) hzl.out (HB.out.grown (grown_alloc (World.grownBy_alloc _ _ _) _)) (by rw [← Hm'.out]; exact hml) ?_; intro w5 hb5 hg5; rw [HV2.out] at hb5; have B5 := Lib.hid hb5; have G5 := Lib.hid (grown_forget (grown_alloc (World.grownBy_alloc w _ none) _) (Nat.le_succ _) hg5); have X5 := Lib.hid ((hg5.block w.heap.size (by rw [alloc2_size]; omega) (fun e => by have := Option.some.inj e; omega)).trans B1.out); clear hb5 hg5)
      | (refine wpList_load_row (by rfl) 110 (.tmp 4) (by rfl) (w.heap.size + 1) (by rfl) _ V (0, 0) _ B5.out Tryd.underlying110 (by rfl) HI1.out ?_)
      | (refine wpList_store_row (by rfl) 110 (.tmp 2) (.tmp 15) (by rfl) w.heap.size V (by rfl) (by rfl) _ _ X5.out HI1.out HI2.out HO.out ?_))
    refine bodyPost_ret (v := .agg V) ?_ rfl ⟨rfl, grown_setRow G5.out (Nat.le_refl _) _⟩
    exact results_cell_row Tryd.results55 _ _ w.heap.size _ _ (0, 0) _ rfl (setRow_heap _ _ _ V _ _ X5.out) Tryd.underlying110 rfl HI1.out
end Go.Proofs.YtmnnhfinmjaccaaDoor
