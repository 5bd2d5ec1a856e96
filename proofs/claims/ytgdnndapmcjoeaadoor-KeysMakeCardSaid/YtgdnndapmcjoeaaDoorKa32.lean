import Derived.Test.YtgdnndapmcjoeaaDoorKa02
import Derived.Test.YtgdnndapmcjoeaaDoorKa28
import Derived.Test.YtgdnndapmcjoeaaDoorKa31
namespace Go.Proofs.YtgdnndapmcjoeaaDoor
open Go.RowKit
/-- A row of the call's own, of a lower base. -/
theorem ownsRow_base {w : World} {base b' : Nat} {e : TypeId} {s n : Nat} {v : Value} {xs : List Value} (h : w.ownsRow base e s v n xs) (hb : b' ≤ base) : w.ownsRow b' e s v n xs :=
  ⟨h.1, h.2.imp id (fun ⟨g, cap, cur, h1, h2, h3⟩ => ⟨g, cap, cur, h1, Nat.le_trans hb h2, h3⟩)⟩
set_option maxRecDepth 100000 in
set_option maxHeartbeats 400000 in
theorem with_any (v : Value) (k : List Nat) (c : Nat) (hc : c < 256) (w : World) (hB : Bytes w v k) (h0 : Whole0 v) (hk : k.length < 1099511620000) :
    Calls Tryd.prog 50 #[v, .int .u8 c] w fun e w' => ∃ u, e = .returned u ∧ FrW w w' u (Hm.mask c (Hm.blk k)) := by
  have hz32 := zeros32_at w
  have hbl := Lib.hid (Hm.blk_len k)
  have HB := Lib.hid hB
  have H0 := Lib.hid h0
  have Hbt := Lib.hid (Hm.blk_lt hB.lt)
  have hx0 : bits .xor .u8 0 (c : Int) = ((0 ^^^ c : Nat) : Int) := u8_xor_nat 0 c (by decide) hc
  obtain ⟨hlt, va, vb, vo, vc, rfl, hvc, ha, hcell⟩ := hB
  obtain ⟨m, hm⟩ : ∃ m, m = k.length := ⟨_, rfl⟩
  rw [← hm] at hvc hk HB H0 ha hcell ⊢
  by_cases hl : 64 < m
  · obtain ⟨S, hS⟩ : ∃ S, S = Sha.sum k := ⟨_, rfl⟩
    have KK : Hid (Hm.key0 k = S) := Lib.hid (by rw [hS]; exact Hm.key0_long (by rw [← hm]; exact hl))
    have HSl : Hid (S.length = 32) := Lib.hid (by rw [hS]; exact Sha.sum_len k)
    obtain ⟨D, hD⟩ : ∃ D, D = bytesV S := ⟨_, rfl⟩
    have hDl : D.size = 32 := by rw [hD, bytesV_size, HSl.out]
    have HI3 : Hid ((Tryd.prog.info? 64).map (·.size) = some D.size) := by rw [hDl]; exact Lib.hid (by kernel_rfl)
    have HI4 : Hid (zeros32.size = D.size) := by rw [hDl]; exact Lib.hid rfl
    have HO1 : Hid (D.all (·.oneCell') = true) := by rw [hD]; exact Lib.hid (bytesV_one _)
    have HS : Hid (Calls Tryd.prog 49 #[.slice va m vc] w fun e w' => e = .returned (.agg D) ∧ w.grownBy w' none) := Lib.hid ((refSum_any _ k w HB.out H0.out (by rw [← hm]; exact hk)).mono (by rintro e w' ⟨rfl, h⟩; exact ⟨by rw [hD, hS], h⟩))
    have HD := Lib.hid hD
    clear hD hDl hS hm hlt ha hcell
    go_enter Tryd.func50, Tryd.ntmps50
    go_wp2_with (first
      | (go_at_call 49; refine HS.out.mono ?_; rintro e w2 ⟨rfl, hg2⟩; have G2 := Lib.hid hg2; have Z2 := Lib.hid (alloc_at w2 (.cells zeros32 64)); clear hg2)
      | (refine wpList_store_row (by rfl) 64 (.tmp 5) (.tmp 13) (by rfl) w2.heap.size D (by rfl) (by rfl) _ _ Z2.out HI3.out HI4.out HO1.out ?_; obtain ⟨W3, hW3⟩ : ∃ W3, W3 = (w2.alloc (.cells zeros32 64)).setRow w2.heap.size D := ⟨_, rfl⟩; rw [← hW3]; have g3 : Hid (w.grownBy W3 none) := Lib.hid (by rw [hW3]; exact grown_trans G2.out (grown_setRow (World.grownBy_alloc _ _ _) (Nat.le_refl _) _)); have b3 : Hid (W3.heap[w2.heap.size]? = some (.cells D 64 (0, 0))) := Lib.hid (by rw [hW3]; exact setRow_heap _ _ _ _ _ _ Z2.out); clear hW3))
    have F0 : Hid (FrW W3 (W3.alloc (.cells #[] 5)) (.slice (some ⟨W3.heap.size, 0, none⟩) 0 0) []) := Lib.hid ⟨World.grownBy_alloc _ _ _, ownsRow_lit (alloc_at W3 _) (Nat.le_refl _) (by simp)⟩
    go_loopw [7, 6, 8] (fun i u _ wr => ∃ j : Nat, j ≤ 64 ∧ i = .int .i64 j ∧ FrW W3 wr u (Hm.mask c ((Hm.blk k).take j))) (fun i _ _ _ => 64 - (intOf i).toNat)
    case atStart => exact ⟨0, by omega, rfl, by simpa [Hm.mask] using F0.out⟩
    case round =>
      obtain ⟨j, hj, rfl, hF⟩ := hrel
      by_cases hj64 : j < 64
      · have HT : Hid (Hm.mask c ((Hm.blk k).take (j + 1)) = Hm.mask c ((Hm.blk k).take j) ++ [(Hm.blk k).getD j 0 ^^^ c]) := Lib.hid (Hm.mask_take c _ j (by rw [hbl.out]; exact hj64))
        have hlen : (Hm.mask c ((Hm.blk k).take j)).length = j := by rw [Hm.mask_len, List.length_take, hbl.out]; omega
        have HF := Lib.hid hF
        have HLN := Lib.hid hlen
        have hcells : ∀ (x : Nat), cellsL (Hm.mask c ((Hm.blk k).take j)) ++ [Value.int .u8 ((x ^^^ c : Nat) : Int)] = cellsL (Hm.mask c ((Hm.blk k).take j) ++ [x ^^^ c]) := fun x => by rw [cellsL_append]; rfl
        have HCS := Lib.hid hcells
        have HC0 : Hid (cellsL (Hm.mask c ((Hm.blk k).take j)) ++ [Value.int .u8 (c : Int)] = cellsL (Hm.mask c ((Hm.blk k).take j) ++ [0 ^^^ c])) := Lib.hid (by rw [← hcells 0, Nat.zero_xor])
        by_cases hjm : j < 32
        · have hc1 : wr.cell? ⟨w2.heap.size, j, none⟩ = some (.int .u8 (S.getD j 0 : Nat)) := by rw [World.cell?_of_block (hF.grown.block _ (blk_lt b3.out) (by simp))]; exact cell_blk b3.out j (by rw [HD.out]; exact bytesV_at _ j (by rw [HSl.out]; exact hjm))
          have hxe : (Hm.blk k).getD j 0 = S.getD j 0 := by rw [Hm.blk_getD k j (by rw [KK.out]; exact (by rw [HSl.out]; exact hjm)), KK.out]
          rw [hxe] at HT
          have hx256 : S.getD j 0 < 256 := by rw [← hxe]; exact getD_lt' Hbt.out j
          have hxor := u8_xor_nat (S.getD j 0) c hx256 hc
          clear hF hlen hcells hxe hx256
          generalize S.getD j 0 = x at *
          go_wp2_with (at_builtin; refine wpList_app1 (by rfl) (.tmp 28) (.tmp 32) 22 (by rfl) W3.heap.size 5 (.int .u8 0) 1 Tryd.underlying22 (by kernel_rfl) rfl (by decide) _ _ _ (by rfl) (HF.out.own.alloc _) ⟨wr.heap.size, 0, none⟩ (.int .u8 ((x ^^^ c : Nat) : Int)) (by rfl) (cell_blk (alloc_at _ _) 0 rfl) rfl (by rw [HLN.out]; omega) (by have := HF.out.le; rw [alloc_size]; omega) ?_; intro v3 w3 ho3 hg3; have HH := Lib.hid ((HF.out.alloc _).step ho3 hg3 (HCS.out x)); clear ho3 hg3)
          go_roundw
          case rel => exact ⟨j + 1, by omega, by go_num, by rw [HT.out]; exact HH.out⟩
          case measure => simp [intOf]; omega
        · have hxe : (Hm.blk k).getD j 0 = 0 := Hm.blk_getD0 k j (by rw [KK.out]; exact (by rw [HSl.out]; exact hjm))
          rw [hxe] at HT
          clear hF hlen hcells hxe
          go_wp2_with (at_builtin; refine wpList_app1 (by rfl) (.tmp 28) (.tmp 32) 22 (by rfl) W3.heap.size 5 (.int .u8 0) 1 Tryd.underlying22 (by kernel_rfl) rfl (by decide) _ _ _ (by rfl) (HF.out.own.alloc _) ⟨wr.heap.size, 0, none⟩ (.int .u8 (c : Int)) (by rfl) (cell_blk (alloc_at _ _) 0 rfl) rfl (by rw [HLN.out]; omega) (by have := HF.out.le; rw [alloc_size]; omega) ?_; intro v3 w3 ho3 hg3; have HH := Lib.hid ((HF.out.alloc _).step ho3 hg3 (HC0.out)); clear ho3 hg3)
          go_roundw
          case rel => exact ⟨j + 1, by omega, by go_num, by rw [HT.out]; exact HH.out⟩
          case measure => simp [intOf]; omega
      · obtain rfl : j = 64 := by omega
        rw [List.take_of_length_le (by rw [hbl.out]; exact Nat.le_refl _)] at hF
        have HF := Lib.hid hF
        clear hF
        go_wp2
        go_ret
        exact ⟨_, rfl, grown_trans g3.out HF.out.grown, ownsRow_base HF.out.own g3.out.size⟩
  · have KK : Hid (Hm.key0 k = k) := Lib.hid (Hm.key0_short (by rw [← hm]; exact hl))
    have Hm' := Lib.hid hm
    have Ha := Lib.hid ha
    have HC := Lib.hid hcell
    have F0 : Hid (FrW w (w.alloc (.cells #[] 5)) (.slice (some ⟨w.heap.size, 0, none⟩) 0 0) []) := Lib.hid ⟨World.grownBy_alloc _ _ _, ownsRow_lit (alloc_at w _) (Nat.le_refl _) (by simp)⟩
    clear hm hlt ha hcell
    go_enter Tryd.func50, Tryd.ntmps50
    go_wp2
    go_loopw [7, 6, 8] (fun i u _ wr => ∃ j : Nat, j ≤ 64 ∧ i = .int .i64 j ∧ FrW w wr u (Hm.mask c ((Hm.blk k).take j))) (fun i _ _ _ => 64 - (intOf i).toNat)
    case atStart => exact ⟨0, by omega, rfl, by simpa [Hm.mask] using F0.out⟩
    case round =>
      obtain ⟨j, hj, rfl, hF⟩ := hrel
      by_cases hj64 : j < 64
      · have HT : Hid (Hm.mask c ((Hm.blk k).take (j + 1)) = Hm.mask c ((Hm.blk k).take j) ++ [(Hm.blk k).getD j 0 ^^^ c]) := Lib.hid (Hm.mask_take c _ j (by rw [hbl.out]; exact hj64))
        have hlen : (Hm.mask c ((Hm.blk k).take j)).length = j := by rw [Hm.mask_len, List.length_take, hbl.out]; omega
        have HF := Lib.hid hF
        have HLN := Lib.hid hlen
        have hcells : ∀ (x : Nat), cellsL (Hm.mask c ((Hm.blk k).take j)) ++ [Value.int .u8 ((x ^^^ c : Nat) : Int)] = cellsL (Hm.mask c ((Hm.blk k).take j) ++ [x ^^^ c]) := fun x => by rw [cellsL_append]; rfl
        have HCS := Lib.hid hcells
        have HC0 : Hid (cellsL (Hm.mask c ((Hm.blk k).take j)) ++ [Value.int .u8 (c : Int)] = cellsL (Hm.mask c ((Hm.blk k).take j) ++ [0 ^^^ c])) := Lib.hid (by rw [← hcells 0, Nat.zero_xor])
        by_cases hjm : j < m
        · obtain ⟨rfl, ha2⟩ := Ha.out (by omega)
          have hc1 : wr.cell? ⟨vb, vo + j, none⟩ = some (.int .u8 (k.getD j 0 : Nat)) := by rw [World.cell?_of_block (hF.grown.block _ ha2 (by simp))]; exact HC.out j hjm
          have hxe : (Hm.blk k).getD j 0 = k.getD j 0 := by rw [Hm.blk_getD k j (by rw [KK.out]; exact (by rw [← Hm'.out]; exact hjm)), KK.out]
          rw [hxe] at HT
          have hx256 : k.getD j 0 < 256 := by rw [← hxe]; exact getD_lt' Hbt.out j
          have hxor := u8_xor_nat (k.getD j 0) c hx256 hc
          clear hF hlen hcells hxe hx256
          generalize k.getD j 0 = x at *
          go_wp2_with (at_builtin; refine wpList_app1 (by rfl) (.tmp 28) (.tmp 32) 22 (by rfl) w.heap.size 5 (.int .u8 0) 1 Tryd.underlying22 (by kernel_rfl) rfl (by decide) _ _ _ (by rfl) (HF.out.own.alloc _) ⟨wr.heap.size, 0, none⟩ (.int .u8 ((x ^^^ c : Nat) : Int)) (by rfl) (cell_blk (alloc_at _ _) 0 rfl) rfl (by rw [HLN.out]; omega) (by have := HF.out.le; rw [alloc_size]; omega) ?_; intro v3 w3 ho3 hg3; have HH := Lib.hid ((HF.out.alloc _).step ho3 hg3 (HCS.out x)); clear ho3 hg3)
          go_roundw
          case rel => exact ⟨j + 1, by omega, by go_num, by rw [HT.out]; exact HH.out⟩
          case measure => simp [intOf]; omega
        · have hxe : (Hm.blk k).getD j 0 = 0 := Hm.blk_getD0 k j (by rw [KK.out]; exact (by rw [← Hm'.out]; exact hjm))
          rw [hxe] at HT
          clear hF hlen hcells hxe
          go_wp2_with (at_builtin; refine wpList_app1 (by rfl) (.tmp 28) (.tmp 32) 22 (by rfl) w.heap.size 5 (.int .u8 0) 1 Tryd.underlying22 (by kernel_rfl) rfl (by decide) _ _ _ (by rfl) (HF.out.own.alloc _) ⟨wr.heap.size, 0, none⟩ (.int .u8 (c : Int)) (by rfl) (cell_blk (alloc_at _ _) 0 rfl) rfl (by rw [HLN.out]; omega) (by have := HF.out.le; rw [alloc_size]; omega) ?_; intro v3 w3 ho3 hg3; have HH := Lib.hid ((HF.out.alloc _).step ho3 hg3 (HC0.out)); clear ho3 hg3)
          go_roundw
          case rel => exact ⟨j + 1, by omega, by go_num, by rw [HT.out]; exact HH.out⟩
          case measure => simp [intOf]; omega
      · obtain rfl : j = 64 := by omega
        rw [List.take_of_length_le (by rw [hbl.out]; exact Nat.le_refl _)] at hF
        have HF := Lib.hid hF
        clear hF
        go_wp2
        go_ret
        exact ⟨_, rfl, HF.out⟩
end Go.Proofs.YtgdnndapmcjoeaaDoor
