import Derived.Test.YtgdnndapmcjoeaaDoorKe02
import Derived.Test.YtgdnndapmcjoeaaDoorKe17
import Derived.Test.YtgdnndapmcjoeaaDoorKe20
import Derived.Test.YtgdnndapmcjoeaaDoorKe21
import Derived.Test.YtgdnndapmcjoeaaDoorKe23
namespace Go.Proofs.YtgdnndapmcjoeaaDoor
open Go.RowKit
theorem outV_zero (s : Sha.St) : outV s 0 = zeros32 := rfl
theorem table_ks : Sha.ks = Co.table := by decide +kernel
theorem ks_len64 : Sha.ks.length = 64 := by decide +kernel
set_option linter.unusedVariables false
set_option maxRecDepth 1000000 in
set_option maxHeartbeats 1000000 in
theorem refSum_any (v : Value) (M : List Nat) (w : World) (hB : Bytes w v M) (h0 : Whole0 v) (hM : M.length < 1099511620000) :
    Calls Tryd.prog 49 #[v] w fun e w' => e = .returned (.agg (bytesV (Sha.sum M))) ∧ w.grownBy w' none := by
  obtain ⟨w1, hw1⟩ : ∃ w1, w1 = w.alloc (.cells zeros32 64) := ⟨_, rfl⟩
  have g1 : w.grownBy w1 none := by rw [hw1]; exact World.grownBy_alloc _ _ _
  have r1 : w1.heap[w.heap.size]? = some (.cells zeros32 64 (0, 0)) := by rw [hw1]; exact alloc_at _ _
  have hs1 : w1.heap.size = w.heap.size + 1 := by rw [hw1]; exact alloc_size _ _
  have F1 : FrW w1 (w1.alloc (.cells #[] 5)) (.slice (some ⟨w.heap.size + 1, 0, none⟩) 0 0) [] := by
    rw [← hs1]
    exact ⟨World.grownBy_alloc _ _ _, ownsRow_lit (alloc_at w1 _) (Nat.le_refl _) (by simp)⟩
  obtain ⟨ml, hml⟩ : ∃ ml, ml = M.length := ⟨_, rfl⟩
  have hz2 := zeros32_at w
  have HI3 : Hid ((Tryd.prog.info? 64).map (·.size) = some (bytesV (Sha.sum M)).size) := by rw [bytesV_size, Sha.sum_len]; exact Lib.hid (by kernel_rfl)
  have HI4 : Hid (zeros32.size = (bytesV (Sha.sum M)).size) := by rw [bytesV_size, Sha.sum_len]; exact Lib.hid (by kernel_rfl)
  have HI5 : Hid ((Tryd.prog.info? 64).map (·.size) = some zeros32.size) := Lib.hid (by kernel_rfl)
  have HF1 := Lib.hid F1
  have HB := Lib.hid hB
  have H0 := Lib.hid h0
  have G1 := Lib.hid g1
  have R1 := Lib.hid r1
  have HS1 := Lib.hid hs1
  have HW1 := Lib.hid hw1
  have HML := Lib.hid hml
  obtain ⟨_, va, vb, vo, vc, rfl, _, _, _⟩ := hB
  rw [← hml] at hM HB H0 ⊢
  clear hw1 g1 r1 hs1 F1 h0 hml
  go_enter Tryd.func49, Tryd.ntmps49
  go_wp2_with (first
    | (at_builtin; rw [← HW1.out]; refine wpList_appB (by rfl) (.tmp 28) (.tmp 29) 22 (by rfl) w1.heap.size 5 (.int .u8 0) 1 Tryd.underlying22 (by kernel_rfl) rfl (by decide) _ 0 [] (by rfl) HF1.out.own _ M (by rfl) (HB.out.grown (grown_trans G1.out HF1.out.grown)) H0.out (by rw [← HML.out]; omega) HF1.out.le ?_; intro v3 w3 ho3 hg3; have F3 := Lib.hid (HF1.out.step (l' := M) ho3 hg3 rfl); clear ho3 hg3)
    | (at_builtin; refine wpList_app1 (by rfl) (.tmp 31) (.tmp 32) 22 (by rfl) w1.heap.size 5 (.int .u8 0) 1 Tryd.underlying22 (by kernel_rfl) rfl (by decide) v3 M.length (cellsL M) (by rfl) (F3.out.own.alloc _) ⟨w3.heap.size, 0, none⟩ (.int .u8 128) (by rfl) (cell_blk (alloc_at _ _) 0 rfl) rfl (by rw [← HML.out]; omega) (by have := F3.out.le; rw [alloc_size]; omega) ?_; intro v4 w4 ho4 hg4; have F4 := Lib.hid ((F3.out.alloc _).step (l' := M ++ [128]) ho4 hg4 (by simp [cellsL])); clear ho4 hg4)
    | (refine ref_loop1 M _ w1 w4 (by rw [← HML.out]; omega) F4.out.grown (by have := F4.out.own; rw [List.length_append] at this; exact this) (Lib.hid ?_); intros; rename_i w5 hg5 ho5; have HG5 := Lib.hid hg5; have HO5 := Lib.hid ho5; clear hg5 ho5)
    | (rw [show ((ml : Int) * 8) = ((8 * ml : Nat) : Int) by push_cast; omega]; refine ref_loop2 (8 * ml) (M.length + 1 + Sha.nz M.length) _ _ w1 w5 (by omega) (by have := Sha.nz_le M.length; rw [← HML.out]; rw [← HML.out] at this; omega) (by simp; omega) HG5.out HO5.out (Lib.hid ?_); intros; rename_i w6 hg6 ho6; obtain ⟨a6, g6, c6, rfl, q1, q2, q3, q4⟩ := ownsRow_form ho6; obtain ⟨rfl, q5, q6⟩ := q3 (by omega); have HG6 := Lib.hid hg6; have HQ4 := Lib.hid q4; clear hg6 ho6 q3 q4)
    | (go_at_call 62; refine (table_any w6).mono ?_; rintro e w7 ⟨rfl, hw7⟩; have HW7 := Lib.hid hw7; clear hw7)
    | (go_at_call 63; refine (first_any w7).mono ?_; rintro e w8 ⟨rfl, hw8⟩; have HW8 := Lib.hid hw8; clear hw8))
  have hw7 := HW7.out
  have hw8 := HW8.out
  have hs7 : w7.heap.size = w6.heap.size + 1 := by rw [hw7]; exact alloc_size _ _
  have hs8 : w8.heap.size = w6.heap.size + 2 := by rw [hw8, alloc_size, hs7]
  have g68 : w6.grownBy w8 none := by rw [hw8, hw7]; exact grown_alloc (World.grownBy_alloc _ _ _) _
  have ht8 : w8.heap[w6.heap.size]? = some (.cells tableV 3 (0, 0)) := by rw [hw8, hw7]; exact alloc2_old _ _ _
  have hf8 : w8.heap[w7.heap.size]? = some (.cells firstV 3 (0, 0)) := by rw [hw8]; exact alloc_at _ _
  have g16 := HG6.out.size
  have HS1' := HS1.out
  obtain ⟨P, hPd⟩ : ∃ P, P = M ++ (128 :: List.replicate (Sha.nz M.length) 0) ++ Sha.be8N (8 * ml) 8 := ⟨_, rfl⟩
  have hPp : P = M ++ Sha.pad M.length := by rw [hPd, Sha.pad, HML.out, List.append_assoc]
  have hPn : P.length = M.length + 1 + Sha.nz M.length + 8 := by rw [hPp, List.length_append, Sha.pad_len]; omega
  obtain ⟨B, hBd⟩ : ∃ B, B = (M.length + (9 + Sha.nz M.length)) / 64 := ⟨_, rfl⟩
  have hBn : M.length + 1 + Sha.nz M.length + 8 = 64 * B := by have := Sha.padded_mod M.length; rw [hBd]; omega
  have hQ4 := HQ4.out
  rw [← hPd] at hQ4
  have hnz := Sha.nz_le M.length
  have HSum : Hid (Sha.sum M = Sha.dig (Sha.chainW P B)) := Lib.hid (by rw [hPp, hBd]; rfl)
  have hPlt : ∀ x ∈ P, x < 256 := by
    rw [hPp]
    intro x hx
    rcases List.mem_append.1 hx with hx | hx
    · exact HB.out.lt x hx
    · exact Sha.pad_lt _ x hx
  refine ref_loop3 (g := g6) (n := M.length + 1 + Sha.nz M.length + 8) (cap := c6) (kg := w6.heap.size) (hb := w7.heap.size) P B _ w8 hPlt hPn hBn q1 (by rw [← HML.out] at hnz ⊢; omega) (by omega) (by omega) (by omega) (by omega) (by omega)
    (fun j hj => by rw [World.cell?_of_block (g68.block g6 q6 (by simp)), hQ4 j hj]; exact cellsL_at P j (by omega))
    (fun j hj => cell_blk ht8 j (by rw [tableV, List.getElem?_toArray, ← table_ks]; simp [intL, ks_len64, hj]))
    hf8 (Lib.hid ?_)
  intros
  rename_i w9 hg9 hh9
  have hs9 := hg9.size
  have hbl9 : w7.heap.size < w9.heap.size := blk_lt hh9
  have h19 : w1.heap.size ≤ w9.heap.size := by omega
  have r9 : w9.heap[w.heap.size]? = some (.cells zeros32 64 (0, 0)) := by
    rw [hg9.block _ (by omega) (by simp; omega), g68.block _ (by omega) (by simp), HG6.out.block _ (by omega) (by simp)]
    exact R1.out
  have gw9 : w.grownBy w9 none := grown_forget (grown_trans G1.out (grown_trans HG6.out g68)) (by omega) hg9
  obtain ⟨st, hst⟩ : ∃ st, st = Sha.chainW P B := ⟨_, rfl⟩
  rw [← hst] at hh9 HSum
  have HH9 := Lib.hid hh9
  have R9 := Lib.hid r9
  have GW9 := Lib.hid gw9
  obtain ⟨W10, hW10⟩ : ∃ W10, W10 = (w9.alloc (.cells zeros32 64)).setRow w9.heap.size zeros32 := ⟨_, rfl⟩
  have g10 : w9.grownBy W10 none := by rw [hW10]; exact grown_setRow (World.grownBy_alloc _ _ _) (Nat.le_refl _) _
  have o10 : W10.heap[w9.heap.size]? = some (.cells (outV st 0) 64 (0, 0)) := by rw [hW10, outV_zero]; exact setRow_heap _ _ _ _ _ _ (alloc_at _ _)
  have HW10 := Lib.hid hW10
  have G10 := Lib.hid g10
  have O10 := Lib.hid o10
  have hob : w7.heap.size ≠ w9.heap.size := by omega
  have hwob : w.heap.size ≠ w9.heap.size := by omega
  clear hw7 hw8 hs7 hs8 g68 ht8 hf8 g16 HS1' hPd hPp hPn hBd hBn hQ4 hnz hPlt hg9 hh9 hs9 h19 r9 gw9 hst hW10 g10 o10 HQ4 HO5 HF1 F3 F4 HB H0 HW7 HW8 HG5 HG6 q1 q2 q5 q6
  have hz3 := zeros32_at w9
  go_wp2_with (first
    | (refine wpList_store_row (by rfl) 64 (.tmp 24) (.tmp 295) (by rfl) w9.heap.size zeros32 (by rfl) (by rfl) _ _ (alloc_at _ _) HI5.out rfl (bytesV_one _) ?_; rw [← HW10.out])
    | (refine ref_loop8 (ob := w9.heap.size) (hb := w7.heap.size) st _ W10 hob (by have := G10.out.size; omega) ((G10.out.block _ hbl9 (by simp)).trans HH9.out) O10.out (Lib.hid ?_); intros; rename_i w11 hg11 ho11; have HG11 := Lib.hid hg11; have HO11 := Lib.hid ho11; clear hg11 ho11)
    | (refine wpList_load_row (by rfl) 64 (.tmp 24) (by rfl) w9.heap.size (by rfl) _ (bytesV (Sha.dig st)) (0, 0) _ HO11.out Tryd.underlying64 (by rfl) (by rw [← HSum.out]; exact HI3.out) ?_)
    | (refine wpList_store_row (by rfl) 64 (.tmp 2) (.tmp 320) (by rfl) w.heap.size (bytesV (Sha.dig st)) (by rfl) (by rfl) _ _ ((HG11.out.block _ (by have := G10.out.size; have := blk_lt R9.out; omega) (by simp; exact hwob)).trans ((G10.out.block _ (blk_lt R9.out) (by simp)).trans R9.out)) (by rw [← HSum.out]; exact HI3.out) (by rw [← HSum.out]; exact HI4.out) (bytesV_one _) ?_))
  have hr11 := (HG11.out.block _ (by have := G10.out.size; have := blk_lt R9.out; omega) (by simp; exact hwob)).trans ((G10.out.block _ (blk_lt R9.out) (by simp)).trans R9.out)
  refine bodyPost_ret (v := .agg (bytesV (Sha.dig st))) ?_ rfl ⟨by rw [HSum.out], grown_setRow (grown_forget (grown_trans GW9.out G10.out) (GW9.out.size) HG11.out) (Nat.le_refl _) _⟩
  have HQ := setRow_heap _ _ _ (bytesV (Sha.dig st)) _ _ hr11
  exact results_cell_row Tryd.results49 _ _ w.heap.size _ _ (0, 0) _ rfl HQ Tryd.underlying64 rfl (by rw [← HSum.out]; exact HI3.out)
end Go.Proofs.YtgdnndapmcjoeaaDoor
namespace Go.Proofs.YtgdnndapmcjoeaaDoor
open Go.RowKit
/-- A row of the call's own, of a lower base. -/
theorem ownsRow_base {w : World} {base b' : Nat} {e : TypeId} {s n : Nat} {v : Value} {xs : List Value} (h : w.ownsRow base e s v n xs) (hb : b' ≤ base) : w.ownsRow b' e s v n xs :=
  ⟨h.1, h.2.imp id (fun ⟨g, cap, cur, h1, h2, h3⟩ => ⟨g, cap, cur, h1, Nat.le_trans hb h2, h3⟩)⟩
set_option maxRecDepth 100000 in
set_option maxHeartbeats 400000 in
theorem with_any (v : Value) (k : List Nat) (c : Nat) (hc : c < 256) (w : World) (hB : Bytes w v k) (h0 : Whole0 v) (hk : k.length < 1099511620000) :
    Calls Tryd.prog 50 #[v, .int .u8 c] w fun e w' => ∃ u, e = .returned u ∧ FrW w w' u (Hm.mask c (Hm.blk k)) := by
  have hz32 := zeros32_at w
  have hbl := Lib.hid (Hm.blk_len k)
  have HB := Lib.hid hB
  have H0 := Lib.hid h0
  have Hbt := Lib.hid (Hm.blk_lt hB.lt)
  have hx0 : bits .xor .u8 0 (c : Int) = ((0 ^^^ c : Nat) : Int) := u8_xor_nat 0 c (by decide) hc
  obtain ⟨hlt, va, vb, vo, vc, rfl, hvc, ha, hcell⟩ := hB
  obtain ⟨m, hm⟩ : ∃ m, m = k.length := ⟨_, rfl⟩
  rw [← hm] at hvc hk HB H0 ha hcell ⊢
  by_cases hl : 64 < m
  · obtain ⟨S, hS⟩ : ∃ S, S = Sha.sum k := ⟨_, rfl⟩
    have KK : Hid (Hm.key0 k = S) := Lib.hid (by rw [hS]; exact Hm.key0_long (by rw [← hm]; exact hl))
    have HSl : Hid (S.length = 32) := Lib.hid (by rw [hS]; exact Sha.sum_len k)
    obtain ⟨D, hD⟩ : ∃ D, D = bytesV S := ⟨_, rfl⟩
    have hDl : D.size = 32 := by rw [hD, bytesV_size, HSl.out]
    have HI3 : Hid ((Tryd.prog.info? 64).map (·.size) = some D.size) := by rw [hDl]; exact Lib.hid (by kernel_rfl)
    have HI4 : Hid (zeros32.size = D.size) := by rw [hDl]; exact Lib.hid rfl
    have HO1 : Hid (D.all (·.oneCell') = true) := by rw [hD]; exact Lib.hid (bytesV_one _)
    have HS : Hid (Calls Tryd.prog 49 #[.slice va m vc] w fun e w' => e = .returned (.agg D) ∧ w.grownBy w' none) := Lib.hid ((refSum_any _ k w HB.out H0.out (by rw [← hm]; exact hk)).mono (by rintro e w' ⟨rfl, h⟩; exact ⟨by rw [hD, hS], h⟩))
    have HD := Lib.hid hD
    clear hD hDl hS hm hlt ha hcell
    go_enter Tryd.func50, Tryd.ntmps50
    go_wp2_with (first
      | (go_at_call 49; refine HS.out.mono ?_; rintro e w2 ⟨rfl, hg2⟩; have G2 := Lib.hid hg2; have Z2 := Lib.hid (alloc_at w2 (.cells zeros32 64)); clear hg2)
      | (refine wpList_store_row (by rfl) 64 (.tmp 5) (.tmp 13) (by rfl) w2.heap.size D (by rfl) (by rfl) _ _ Z2.out HI3.out HI4.out HO1.out ?_; obtain ⟨W3, hW3⟩ : ∃ W3, W3 = (w2.alloc (.cells zeros32 64)).setRow w2.heap.size D := ⟨_, rfl⟩; rw [← hW3]; have g3 : Hid (w.grownBy W3 none) := Lib.hid (by rw [hW3]; exact grown_trans G2.out (grown_setRow (World.grownBy_alloc _ _ _) (Nat.le_refl _) _)); have b3 : Hid (W3.heap[w2.heap.size]? = some (.cells D 64 (0, 0))) := Lib.hid (by rw [hW3]; exact setRow_heap _ _ _ _ _ _ Z2.out); clear hW3))
    have F0 : Hid (FrW W3 (W3.alloc (.cells #[] 5)) (.slice (some ⟨W3.heap.size, 0, none⟩) 0 0) []) := Lib.hid ⟨World.grownBy_alloc _ _ _, ownsRow_lit (alloc_at W3 _) (Nat.le_refl _) (by simp)⟩
    go_loopw [7, 6, 8] (fun i u _ wr => ∃ j : Nat, j ≤ 64 ∧ i = .int .i64 j ∧ FrW W3 wr u (Hm.mask c ((Hm.blk k).take j))) (fun i _ _ _ => 64 - (intOf i).toNat)
    case atStart => exact ⟨0, by omega, rfl, by simpa [Hm.mask] using F0.out⟩
    case round =>
      obtain ⟨j, hj, rfl, hF⟩ := hrel
      by_cases hj64 : j < 64
      · have HT : Hid (Hm.mask c ((Hm.blk k).take (j + 1)) = Hm.mask c ((Hm.blk k).take j) ++ [(Hm.blk k).getD j 0 ^^^ c]) := Lib.hid (Hm.mask_take c _ j (by rw [hbl.out]; exact hj64))
        have hlen : (Hm.mask c ((Hm.blk k).take j)).length = j := by rw [Hm.mask_len, List.length_take, hbl.out]; omega
        have HF := Lib.hid hF
        have HLN := Lib.hid hlen
        have hcells : ∀ (x : Nat), cellsL (Hm.mask c ((Hm.blk k).take j)) ++ [Value.int .u8 ((x ^^^ c : Nat) : Int)] = cellsL (Hm.mask c ((Hm.blk k).take j) ++ [x ^^^ c]) := fun x => by rw [cellsL_append]; rfl
        have HCS := Lib.hid hcells
        have HC0 : Hid (cellsL (Hm.mask c ((Hm.blk k).take j)) ++ [Value.int .u8 (c : Int)] = cellsL (Hm.mask c ((Hm.blk k).take j) ++ [0 ^^^ c])) := Lib.hid (by rw [← hcells 0, Nat.zero_xor])
        by_cases hjm : j < 32
        · have hc1 : wr.cell? ⟨w2.heap.size, j, none⟩ = some (.int .u8 (S.getD j 0 : Nat)) := by rw [World.cell?_of_block (hF.grown.block _ (blk_lt b3.out) (by simp))]; exact cell_blk b3.out j (by rw [HD.out]; exact bytesV_at _ j (by rw [HSl.out]; exact hjm))
          have hxe : (Hm.blk k).getD j 0 = S.getD j 0 := by rw [Hm.blk_getD k j (by rw [KK.out]; exact (by rw [HSl.out]; exact hjm)), KK.out]
          rw [hxe] at HT
          have hx256 : S.getD j 0 < 256 := by rw [← hxe]; exact getD_lt' Hbt.out j
          have hxor := u8_xor_nat (S.getD j 0) c hx256 hc
          clear hF hlen hcells hxe hx256
          generalize S.getD j 0 = x at *
          go_wp2_with (at_builtin; refine wpList_app1 (by rfl) (.tmp 28) (.tmp 32) 22 (by rfl) W3.heap.size 5 (.int .u8 0) 1 Tryd.underlying22 (by kernel_rfl) rfl (by decide) _ _ _ (by rfl) (HF.out.own.alloc _) ⟨wr.heap.size, 0, none⟩ (.int .u8 ((x ^^^ c : Nat) : Int)) (by rfl) (cell_blk (alloc_at _ _) 0 rfl) rfl (by rw [HLN.out]; omega) (by have := HF.out.le; rw [alloc_size]; omega) ?_; intro v3 w3 ho3 hg3; have HH := Lib.hid ((HF.out.alloc _).step ho3 hg3 (HCS.out x)); clear ho3 hg3)
          go_roundw
          case rel => exact ⟨j + 1, by omega, by go_num, by rw [HT.out]; exact HH.out⟩
          case measure => simp [intOf]; omega
        · have hxe : (Hm.blk k).getD j 0 = 0 := Hm.blk_getD0 k j (by rw [KK.out]; exact (by rw [HSl.out]; exact hjm))
          rw [hxe] at HT
          clear hF hlen hcells hxe
          go_wp2_with (at_builtin; refine wpList_app1 (by rfl) (.tmp 28) (.tmp 32) 22 (by rfl) W3.heap.size 5 (.int .u8 0) 1 Tryd.underlying22 (by kernel_rfl) rfl (by decide) _ _ _ (by rfl) (HF.out.own.alloc _) ⟨wr.heap.size, 0, none⟩ (.int .u8 (c : Int)) (by rfl) (cell_blk (alloc_at _ _) 0 rfl) rfl (by rw [HLN.out]; omega) (by have := HF.out.le; rw [alloc_size]; omega) ?_; intro v3 w3 ho3 hg3; have HH := Lib.hid ((HF.out.alloc _).step ho3 hg3 (HC0.out)); clear ho3 hg3)
          go_roundw
          case rel => exact ⟨j + 1, by omega, by go_num, by rw [HT.out]; exact HH.out⟩
          case measure => simp [intOf]; omega
      · obtain rfl : j = 64 := by omega
        rw [List.take_of_length_le (by rw [hbl.out]; exact Nat.le_refl _)] at hF
        have HF := Lib.hid hF
        clear hF
        go_wp2
        go_ret
        exact ⟨_, rfl, grown_trans g3.out HF.out.grown, ownsRow_base HF.out.own g3.out.size⟩
  · have KK : Hid (Hm.key0 k = k) := Lib.hid (Hm.key0_short (by rw [← hm]; exact hl))
    have Hm' := Lib.hid hm
    have Ha := Lib.hid ha
    have HC := Lib.hid hcell
    have F0 : Hid (FrW w (w.alloc (.cells #[] 5)) (.slice (some ⟨w.heap.size, 0, none⟩) 0 0) []) := Lib.hid ⟨World.grownBy_alloc _ _ _, ownsRow_lit (alloc_at w _) (Nat.le_refl _) (by simp)⟩
    clear hm hlt ha hcell
    go_enter Tryd.func50, Tryd.ntmps50
    go_wp2
    go_loopw [7, 6, 8] (fun i u _ wr => ∃ j : Nat, j ≤ 64 ∧ i = .int .i64 j ∧ FrW w wr u (Hm.mask c ((Hm.blk k).take j))) (fun i _ _ _ => 64 - (intOf i).toNat)
    case atStart => exact ⟨0, by omega, rfl, by simpa [Hm.mask] using F0.out⟩
    case round =>
      obtain ⟨j, hj, rfl, hF⟩ := hrel
      by_cases hj64 : j < 64
      · have HT : Hid (Hm.mask c ((Hm.blk k).take (j + 1)) = Hm.mask c ((Hm.blk k).take j) ++ [(Hm.blk k).getD j 0 ^^^ c]) := Lib.hid (Hm.mask_take c _ j (by rw [hbl.out]; exact hj64))
        have hlen : (Hm.mask c ((Hm.blk k).take j)).length = j := by rw [Hm.mask_len, List.length_take, hbl.out]; omega
        have HF := Lib.hid hF
        have HLN := Lib.hid hlen
        have hcells : ∀ (x : Nat), cellsL (Hm.mask c ((Hm.blk k).take j)) ++ [Value.int .u8 ((x ^^^ c : Nat) : Int)] = cellsL (Hm.mask c ((Hm.blk k).take j) ++ [x ^^^ c]) := fun x => by rw [cellsL_append]; rfl
        have HCS := Lib.hid hcells
        have HC0 : Hid (cellsL (Hm.mask c ((Hm.blk k).take j)) ++ [Value.int .u8 (c : Int)] = cellsL (Hm.mask c ((Hm.blk k).take j) ++ [0 ^^^ c])) := Lib.hid (by rw [← hcells 0, Nat.zero_xor])
        by_cases hjm : j < m
        · obtain ⟨rfl, ha2⟩ := Ha.out (by omega)
          have hc1 : wr.cell? ⟨vb, vo + j, none⟩ = some (.int .u8 (k.getD j 0 : Nat)) := by rw [World.cell?_of_block (hF.grown.block _ ha2 (by simp))]; exact HC.out j hjm
          have hxe : (Hm.blk k).getD j 0 = k.getD j 0 := by rw [Hm.blk_getD k j (by rw [KK.out]; exact (by rw [← Hm'.out]; exact hjm)), KK.out]
          rw [hxe] at HT
          have hx256 : k.getD j 0 < 256 := by rw [← hxe]; exact getD_lt' Hbt.out j
          have hxor := u8_xor_nat (k.getD j 0) c hx256 hc
          clear hF hlen hcells hxe hx256
          generalize k.getD j 0 = x at *
          go_wp2_with (at_builtin; refine wpList_app1 (by rfl) (.tmp 28) (.tmp 32) 22 (by rfl) w.heap.size 5 (.int .u8 0) 1 Tryd.underlying22 (by kernel_rfl) rfl (by decide) _ _ _ (by rfl) (HF.out.own.alloc _) ⟨wr.heap.size, 0, none⟩ (.int .u8 ((x ^^^ c : Nat) : Int)) (by rfl) (cell_blk (alloc_at _ _) 0 rfl) rfl (by rw [HLN.out]; omega) (by have := HF.out.le; rw [alloc_size]; omega) ?_; intro v3 w3 ho3 hg3; have HH := Lib.hid ((HF.out.alloc _).step ho3 hg3 (HCS.out x)); clear ho3 hg3)
          go_roundw
          case rel => exact ⟨j + 1, by omega, by go_num, by rw [HT.out]; exact HH.out⟩
          case measure => simp [intOf]; omega
        · have hxe : (Hm.blk k).getD j 0 = 0 := Hm.blk_getD0 k j (by rw [KK.out]; exact (by rw [← Hm'.out]; exact hjm))
          rw [hxe] at HT
          clear hF hlen hcells hxe
          go_wp2_with (at_builtin; refine wpList_app1 (by rfl) (.tmp 28) (.tmp 32) 22 (by rfl) w.heap.size 5 (.int .u8 0) 1 Tryd.underlying22 (by kernel_rfl) rfl (by decide) _ _ _ (by rfl) (HF.out.own.alloc _) ⟨wr.heap.size, 0, none⟩ (.int .u8 (c : Int)) (by rfl) (cell_blk (alloc_at _ _) 0 rfl) rfl (by rw [HLN.out]; omega) (by have := HF.out.le; rw [alloc_size]; omega) ?_; intro v3 w3 ho3 hg3; have HH := Lib.hid ((HF.out.alloc _).step ho3 hg3 (HC0.out)); clear ho3 hg3)
          go_roundw
          case rel => exact ⟨j + 1, by omega, by go_num, by rw [HT.out]; exact HH.out⟩
          case measure => simp [intOf]; omega
      · obtain rfl : j = 64 := by omega
        rw [List.take_of_length_le (by rw [hbl.out]; exact Nat.le_refl _)] at hF
        have HF := Lib.hid hF
        clear hF
        go_wp2
        go_ret
        exact ⟨_, rfl, HF.out⟩
end Go.Proofs.YtgdnndapmcjoeaaDoor
