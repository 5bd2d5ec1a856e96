/- mac.Sum, the whole function. -/
import Derived.Test.YtckdkcfhkakcfaaDoorHm6
namespace Go.Proofs.YtckdkcfhkakcfaaDoor
open Go.RowKit

set_option maxRecDepth 100000 in
set_option maxHeartbeats 400000 in
theorem macSum_any (vk : Value) (k : List Nat) (parts : List (List Nat)) (a : Option Addr) (sb so n c : Nat) (hn : parts.length = n) (w : World) (hK : Bytes w vk k) (hk : k.length < 1152921504606846000)
    (ha : 0 < n → a = some ⟨sb, so, none⟩ ∧ sb < w.heap.size) (hP : PartsAt w sb so parts) (hM : parts.flatten.length < 1152921504606840000) (hnn : n < 1152921504606846000) (hL : Laid w) :
    Calls Tryd.prog 29 #[vk, .slice a n c] w fun e w' => e = .returned (.agg (bytesV (Hm.hmac k parts.flatten))) ∧ w.grownBy w' none := by
  have hz32 := zeros32_at w
  have hz64 : ∀ w, (zeroValue 70).run Tryd.prog w = .ok (.agg zeros64) w := fun _ => by kernel_rfl
  obtain ⟨bk, hbk⟩ : ∃ b, b = Hm.blk k := ⟨_, rfl⟩
  have hbl : bk.length = 64 := by rw [hbk, Hm.blk_len]
  have hbt : ∀ x ∈ bk, x < 256 := by rw [hbk]; exact Hm.blk_lt hK.lt
  obtain ⟨m1, hm1⟩ : ∃ m, m = Hm.mask 54 bk := ⟨_, rfl⟩
  obtain ⟨m2, hm2⟩ : ∃ m, m = Hm.mask 92 bk := ⟨_, rfl⟩
  have hl1 : m1.length = 64 := by rw [hm1, Hm.mask_len, hbl]
  have ht1 : ∀ x ∈ m1, x < 256 := by rw [hm1]; exact Hm.mask_lt (by decide) hbt
  obtain ⟨d1, hd1⟩ : ∃ d, d = Sha.sum (m1 ++ parts.flatten) := ⟨_, rfl⟩
  obtain ⟨D, hD⟩ : ∃ D, D = bytesV (Sha.sum (m2 ++ d1)) := ⟨_, rfl⟩
  have hdl : d1.length = 32 := by rw [hd1, Sha.sum_len]
  have hdt : ∀ x ∈ d1, x < 256 := by rw [hd1]; exact sum_lt' _
  have hDl : D.size = 32 := by rw [hD, bytesV_size, Sha.sum_len]
  have hDo : D.all (·.oneCell') = true := by rw [hD]; exact bytesV_one _
  have hDe : ∀ e : Value, e = .agg (bytesV (Sha.sum (m2 ++ d1))) → e = .agg D := fun e h => by rw [hD]; exact h
  have hgoal : bytesV (Hm.hmac k parts.flatten) = D := by rw [hD, hd1, hm1, hm2, hbk]; rfl
  rw [hgoal]
  obtain ⟨w0, hw0⟩ : ∃ w0, w0 = w.alloc (.cells zeros32 27) := ⟨_, rfl⟩
  have B0 : Hid (w0.heap[w.heap.size]? = some (.cells zeros32 27 (0, 0))) := Lib.hid (by rw [hw0]; exact alloc_at _ _)
  have G0 : Hid (w.grownBy w0 none) := Lib.hid (by rw [hw0]; exact World.grownBy_alloc _ _ _)
  have HW0 := Lib.hid hw0
  have HST : Hid (Calls Tryd.prog 50 #[vk] w0 fun e w' => e = .returned (.agg (bytesV bk)) ∧ w0.grownBy w' none) := Lib.hid (by rw [hbk]; exact stretch_any vk k w0 (hK.grown G0.out) hk (hL.grown G0.out (by simp) (by simp)))
  have HSM : Hid (∀ (s : Sha.HS) (wr : World) (b : Nat), Sha.Rep s (m1 ++ parts.flatten) → 29 < b → IsHash wr b s → Laid wr → Calls Tryd.prog 22 #[.pointer (some ⟨b, 0, none⟩)] wr fun e w' => e = .returned (.agg (bytesV d1)) ∧ wr.grownBy w' none) :=
    Lib.hid (fun s wr b hR hb hH hL => by rw [hd1]; exact hsum_any s _ hR (by rw [List.length_append, hl1]; omega) b hb wr hH hL)
  have HIV : Hid ((Tryd.prog.info? 70).map (·.size) = some (bytesV bk).size) := by rw [bytesV_size, hbl]; exact Lib.hid (by kernel_rfl)
  have HIW : Hid (zeros64.size = (bytesV bk).size) := by rw [bytesV_size, hbl]; exact Lib.hid (by rw [zeros64, bytesV_size]; exact List.length_replicate ..)
  have HI3 : Hid ((Tryd.prog.info? 27).map (·.size) = some (bytesV d1).size) := by rw [bytesV_size, hdl]; exact Lib.hid (by kernel_rfl)
  have HI4 : Hid (zeros32.size = (bytesV d1).size) := by rw [bytesV_size, hdl]; exact Lib.hid rfl
  have HI5 : Hid ((Tryd.prog.info? 27).map (·.size) = some D.size) := by rw [hDl]; exact Lib.hid (by kernel_rfl)
  have HMK : Hid (∀ w, Calls Tryd.prog 51 #[.agg (bytesV bk), .int .u8 54] w fun e w' => e = .returned (.slice (some ⟨w.heap.size, 0, none⟩) 64 64) ∧ w.grownBy w' none ∧ w'.heap[w.heap.size]? = some (.cells (bytesV m1) 70 (0, 0))) := Lib.hid (fun w => by rw [hm1]; exact masked_any bk hbl hbt 54 (by decide) w)
  have Hbl := Lib.hid hbl
  have Hbt := Lib.hid hbt
  have Hm2 := Lib.hid hm2
  have Hl1 := Lib.hid hl1
  have Ht1 := Lib.hid ht1
  have Hdl := Lib.hid hdl
  have Hdt := Lib.hid hdt
  have HDl := Lib.hid hDl
  have HDo := Lib.hid hDo
  have HDe := Lib.hid hDe
  have HL := Lib.hid hL
  have HP := Lib.hid hP
  have Ha := Lib.hid ha
  have Hn := Lib.hid hn
  have HM := Lib.hid hM
  have hsz : Hid (29 < w.heap.size) := Lib.hid (by have := hL.size; omega)
  clear hw0 hbk hbl hbt hm1 hm2 hl1 ht1 hd1 hD hdl hdt hDl hDo hDe hgoal hK hk hL hP ha hn hM
  go_enter Tryd.func29, Tryd.ntmps29
  go_wp2_with (first
    | (go_at_call 50; rw [← HW0.out]; refine HST.out.mono ?_; rintro e w1 ⟨rfl, hg1⟩; have G1 := Lib.hid (grown_trans G0.out hg1); have B1 := Lib.hid ((hg1.block _ (blk_lt B0.out) (by simp)).trans B0.out); have Z1 := Lib.hid (alloc_at w1 (.cells zeros64 70)); clear hg1)
    | (refine wpList_store_row (by rfl) 70 (.tmp 5) (.tmp 11) (by rfl) w1.heap.size (bytesV bk) (by rfl) (by rfl) _ _ Z1.out HIV.out HIW.out (bytesV_one _) ?_; obtain ⟨W2, hW2⟩ : ∃ W2, W2 = (w1.alloc (.cells zeros64 70)).setRow w1.heap.size (bytesV bk) := ⟨_, rfl⟩; rw [← hW2]; have g2 : Hid (w1.grownBy W2 none) := Lib.hid (by rw [hW2]; exact grown_setRow (World.grownBy_alloc _ _ _) (Nat.le_refl _) _); have V2 : Hid (W2.heap[w1.heap.size]? = some (.cells (bytesV bk) 70 (0, 0))) := Lib.hid (by rw [hW2]; exact setRow_heap _ _ _ _ _ _ Z1.out); clear hW2)
    | (go_at_call 19; refine (new_any W2).mono ?_; rintro e w3 ⟨rfl, hw3⟩; have g3 : Hid (W2.grownBy w3 none) := Lib.hid (by rw [hw3]; exact World.grownBy_alloc _ _ _); have H3 : Hid (IsHash w3 W2.heap.size ⟨⟨0, 0, 0, 0, 0, 0, 0, 0⟩, 0, List.replicate 64 0, 0⟩) := Lib.hid (by rw [hw3]; exact alloc_at _ _); clear hw3; have V3 := Lib.hid ((g3.out.block _ (blk_lt V2.out) (by simp)).trans V2.out))
    | (refine wpList_load_row (by rfl) 70 (.tmp 5) (by rfl) w1.heap.size (by rfl) _ (bytesV bk) (0, 0) _ V3.out Tryd.underlying70 (by rfl) HIV.out ?_)
    | (go_at_call 51; refine (HMK.out w3).mono ?_; rintro e w4 ⟨rfl, hg4, hb4⟩; have g4 := Lib.hid hg4; have B4 := Lib.hid hb4; have H4 := Lib.hid (H3.out.grown hg4 (by simp)); have G4 := Lib.hid (grown_trans G1.out (grown_trans g2.out (grown_trans g3.out hg4))); clear hg4 hb4)
    | (go_at_call 21; refine (write_core _ [] Sha.rep_new W2.heap.size (by have := hsz.out; have := G1.out.size; have := g2.out.size; omega) w4 H4.out (HL.out.grown G4.out (by simp) (by simp)) m1 Ht1.out (by rw [Hl1.out]; decide) (some ⟨w3.heap.size, 0, none⟩) w3.heap.size 0 64 64 Hl1.out (by decide) (fun _ => ⟨rfl, blk_lt B4.out, by have := H3.out.lt; omega⟩) (fun j hj => by rw [Nat.zero_add]; exact cell_blk B4.out j (bytesV_at m1 j (by rw [Hl1.out]; exact hj))) (by decide)).mono ?_; rintro e w5 ⟨rfl, hg5, s5, hH5, hR5⟩; have g5 := Lib.hid hg5; have H5 := Lib.hid hH5; have R5 := Lib.hid hR5; clear hg5 hH5 hR5))
  have hbw : Hid (w.heap.size < w1.heap.size ∧ w1.heap.size < W2.heap.size) := Lib.hid ⟨blk_lt B1.out, blk_lt V2.out⟩
  have Hrb : Hid (29 < W2.heap.size) := Lib.hid (by have := hsz.out; have := hbw.out; omega)
  have hW4 : Hid (W2.heap.size < w4.heap.size) := Lib.hid H4.out.lt
  have G5 : Hid (w.grownBy w5 none) := Lib.hid (grown_forget G4.out (by have := hbw.out; omega) g5.out)
  have B5 : Hid (w5.heap[w.heap.size]? = some (.cells zeros32 27 (0, 0))) := Lib.hid ((g5.out.block _ (by have := hbw.out; have := hW4.out; omega) (fun e => by have := Option.some.inj e; have := hbw.out; omega)).trans (((grown_trans g2.out (grown_trans g3.out g4.out)).block _ (blk_lt B1.out) (by simp)).trans B1.out))
  have V5 : Hid (w5.heap[w1.heap.size]? = some (.cells (bytesV bk) 70 (0, 0))) := Lib.hid ((g5.out.block _ (by have := hbw.out; have := hW4.out; omega) (fun e => by have := Option.some.inj e; have := hbw.out; omega)).trans ((g4.out.block _ (blk_lt V3.out) (by simp)).trans V3.out))
  clear G1 B1 Z1 g2 V2 g3 H3 V3 g4 B4 H4 G4 g5
  go_loopw [19] (fun i wr => ∃ (k : Nat) (s : Sha.HS), k ≤ n ∧ i = .int .i64 k ∧ w.grownBy wr none ∧ IsHash wr W2.heap.size s ∧ Sha.Rep s (m1 ++ (parts.take k).flatten) ∧ wr.heap[w.heap.size]? = some (.cells zeros32 27 (0, 0)) ∧ wr.heap[w1.heap.size]? = some (.cells (bytesV bk) 70 (0, 0))) (fun i _ => n - (intOf i).toNat)
  case atStart => exact ⟨0, _, Nat.zero_le _, rfl, G5.out, H5.out, by simpa using R5.out, B5.out, V5.out⟩
  case round =>
    obtain ⟨k, s, hk, rfl, hg, hH, hR, hB, hV⟩ := hrel
    have HLr := Lib.hid (HL.out.grown hg (by simp) (by simp))
    by_cases hkn : k < n
    · obtain ⟨ha1, ha2⟩ := Ha.out (by omega)
      subst ha1
      obtain ⟨v, hv, hBy⟩ := HP.out k (by rw [Hn.out]; exact hkn)
      have hc : wr.cell? ⟨sb, so + k, none⟩ = some v := by rw [World.cell?_of_block (hg.block sb ha2 (by simp))]; exact hv
      have hft := flatten_take parts k (by rw [Hn.out]; exact hkn)
      have hW := write_bytes s _ hR W2.heap.size Hrb.out w wr hg (by have := hbw.out; omega) hH HLr.out v _ hBy (by
        have := flatten_len parts (k + 1)
        rw [hft, List.length_append] at this
        rw [List.length_append, Hl1.out]
        have := HM.out
        omega)
      rw [List.append_assoc, ← hft] at hW
      have HWr := Lib.hid hW
      have HG := Lib.hid hg
      have HB := Lib.hid hB
      have HV := Lib.hid hV
      have HHl := Lib.hid hH.lt
      clear hg hH hR hB hV ha2 hv hBy hft hW
      go_wp2_with (go_at_call 21; refine HWr.out.mono ?_; rintro e w6 ⟨rfl, hg6, s6, hH6, hR6⟩; have HG6 := Lib.hid hg6; have HH6 := Lib.hid hH6; have HR6 := Lib.hid hR6; clear hg6 hH6 hR6)
      go_roundw
      case rel => exact ⟨k + 1, s6, by omega, by go_num, grown_forget HG.out (by have := hbw.out; omega) HG6.out, HH6.out, HR6.out, (HG6.out.block _ (blk_lt HB.out) (fun e => by have := Option.some.inj e; have := hbw.out; omega)).trans HB.out, (HG6.out.block _ (blk_lt HV.out) (fun e => by have := Option.some.inj e; have := hbw.out; omega)).trans HV.out⟩
      case measure => simp [intOf]; omega
    · obtain rfl : k = n := by omega
      rw [List.take_of_length_le (by rw [Hn.out]; exact Nat.le_refl _)] at hR
      have HS := Lib.hid (HSM.out s wr W2.heap.size hR Hrb.out hH HLr.out)
      have HG := Lib.hid hg
      have HB := Lib.hid hB
      have HV := Lib.hid hV
      clear hg hH hR hB hV
      go_wp2_with (first
        | (go_at_call 22; refine HS.out.mono ?_; rintro e w6 ⟨rfl, hg6⟩; have HG6 := Lib.hid hg6; have Z6 := Lib.hid (alloc_at w6 (.cells zeros32 27)); clear hg6)
        | (refine wpList_store_row (by rfl) 27 (.tmp 9) (.tmp 28) (by rfl) w6.heap.size (bytesV d1) (by rfl) (by rfl) _ _ Z6.out HI3.out HI4.out (bytesV_one _) ?_; obtain ⟨W7, hW7⟩ : ∃ W7, W7 = (w6.alloc (.cells zeros32 27)).setRow w6.heap.size (bytesV d1) := ⟨_, rfl⟩; rw [← hW7]; have g7 : Hid (w6.grownBy W7 none) := Lib.hid (by rw [hW7]; exact grown_setRow (World.grownBy_alloc _ _ _) (Nat.le_refl _) _); have b7 : Hid (W7.heap[w6.heap.size]? = some (.cells (bytesV d1) 27 (0, 0))) := Lib.hid (by rw [hW7]; exact setRow_heap _ _ _ _ _ _ Z6.out); clear hW7))
      have gr7 := grown_trans HG6.out g7.out
      refine mac_region _ bk m2 d1 D w.heap.size w1.heap.size w6.heap.size W7 _ rfl rfl rfl rfl Hbl.out Hm2.out Hbt.out Hdl.out Hdt.out (HLr.out.grown gr7 (by simp) (by simp)) ((gr7.block _ (blk_lt HB.out) (by simp)).trans HB.out) ((gr7.block _ (blk_lt HV.out) (by simp)).trans HV.out) b7.out HDl.out HDo.out HDe.out (fun a' w' hd h4 hgr hb => ?_)
      obtain ⟨w8, hg8, rfl⟩ := hgr
      go_wp2
      refine bodyPost_ret (v := .agg D) ?_ hd ⟨rfl, grown_setRow (grown_trans (grown_trans HG.out gr7) hg8) (Nat.le_refl _) _⟩
      exact results_cell_row Tryd.results29 _ _ w.heap.size _ _ (0, 0) _ h4 hb Tryd.underlying27 rfl HI5.out
end Go.Proofs.YtckdkcfhkakcfaaDoor
