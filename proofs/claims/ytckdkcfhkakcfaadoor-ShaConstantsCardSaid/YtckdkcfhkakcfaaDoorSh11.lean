/- The walk of sha.Sum over all parts. The walk of the law's alive. -/
import Derived.Test.YtckdkcfhkakcfaaDoorSh9
namespace Go.Proofs.YtckdkcfhkakcfaaDoor
open Go.RowKit

theorem flatten_take (parts : List (List Nat)) (k : Nat) (hk : k < parts.length) : (parts.take (k + 1)).flatten = (parts.take k).flatten ++ parts.getD k [] := by
  rw [List.take_add_one, List.flatten_append, List.getElem?_eq_getElem hk]
  simp [List.getElem?_eq_getElem hk]
theorem flatten_len (parts : List (List Nat)) : ∀ k, ((parts.take k).flatten).length ≤ parts.flatten.length := fun k => by
  have : parts.flatten = (parts.take k).flatten ++ (parts.drop k).flatten := by rw [← List.flatten_append, List.take_append_drop]
  rw [this, List.length_append]; omega

/-- Any writer, from whatever world the parts are still there. -/
theorem write_bytes (s : Sha.HS) (M : List Nat) (hR : Sha.Rep s M) (b : Nat) (hb2 : 29 < b) (w0 w : World) (hg : w0.grownBy w none) (hb : w0.heap.size ≤ b) (hH : IsHash w b s) (hL : Laid w) (v : Value) (l : List Nat) (hB : Bytes w0 v l) (hM : M.length + l.length < 1152921504606846976) :
    Calls Tryd.prog 21 #[.pointer (some ⟨b, 0, none⟩), v] w fun e w' =>
      e = .returned (.tuple #[]) ∧ w.grownBy w' (some b) ∧ ∃ s', IsHash w' b s' ∧ Sha.Rep s' (M ++ l) := by
  obtain ⟨h1, a, sb, so, c, rfl, h3, h4, h5⟩ := hB
  exact write_core s M hR b hb2 w hH hL l h1 hM a sb so l.length c rfl h3 (fun h => ⟨(h4 h).1, Nat.lt_of_lt_of_le (h4 h).2 hg.size, by have := (h4 h).2; omega⟩)
    (fun j hj => by rw [World.cell?_of_block (hg.block sb (h4 (by omega)).2 (by simp))]; exact h5 j hj) (by omega)

set_option maxRecDepth 100000 in
set_option maxHeartbeats 1000000 in
theorem psum_any (parts : List (List Nat)) (a : Option Addr) (sb so n c : Nat) (hn : parts.length = n) (w : World) (ha : 0 < n → a = some ⟨sb, so, none⟩ ∧ sb < w.heap.size) (hP : PartsAt w sb so parts)
    (hM : parts.flatten.length < 1152921504606846000) (hnn : n < 1152921504606846000) (hL : Laid w) :
    Calls Tryd.prog 14 #[.slice a n c] w fun e w' => e = .returned (.agg (bytesV (Sha.sum parts.flatten))) ∧ w.grownBy w' none := by
  have hz2 := zeros32_at w
  have HI3 : Hid ((Tryd.prog.info? 27).map (·.size) = some (bytesV (Sha.sum parts.flatten)).size) := by rw [bytesV_size, Sha.sum_len]; exact Lib.hid (by kernel_rfl)
  have HI4 : Hid (zeros32.size = (bytesV (Sha.sum parts.flatten)).size) := by rw [bytesV_size, Sha.sum_len]; exact Lib.hid (by kernel_rfl)
  have hnew := new_any (w.alloc (.cells zeros32 27))
  rw [alloc_size] at hnew
  have HN := Lib.hid hnew
  have HL := Lib.hid hL
  have HP := Lib.hid hP
  have Ha := Lib.hid ha
  have Hn := Lib.hid hn
  have HM := Lib.hid hM
  have hsz := hL.size
  clear hL hP ha hn hM hnew
  go_enter Tryd.func14, Tryd.ntmps14
  go_wp2_with (go_at_call 19; refine HN.out.mono ?_; rintro e w1 ⟨rfl, hw1⟩; have HW1 := Lib.hid hw1; clear hw1)
  have hw1 := HW1.out
  have g1 : w.grownBy w1 none := by rw [hw1]; exact grown_alloc (World.grownBy_alloc _ _ _) _
  have h1 : IsHash w1 (w.heap.size + 1) ⟨⟨0, 0, 0, 0, 0, 0, 0, 0⟩, 0, List.replicate 64 0, 0⟩ := by rw [hw1]; exact alloc2_new _ _ _
  have b1 : w1.heap[w.heap.size]? = some (.cells zeros32 27 (0, 0)) := by rw [hw1]; exact alloc2_old _ _ _
  have G1 := Lib.hid g1
  have H1 := Lib.hid h1
  have B1 := Lib.hid b1
  clear hw1 g1 h1 b1
  go_loopw [9] (fun i wr => ∃ (k : Nat) (s : Sha.HS), k ≤ n ∧ i = .int .i64 k ∧ w.grownBy wr none ∧ IsHash wr (w.heap.size + 1) s ∧ Sha.Rep s (parts.take k).flatten ∧ wr.heap[w.heap.size]? = some (.cells zeros32 27 (0, 0))) (fun i _ => n - (intOf i).toNat)
  case atStart => exact ⟨0, _, Nat.zero_le _, rfl, G1.out, H1.out, by simpa using Sha.rep_new, B1.out⟩
  case round =>
    obtain ⟨k, s, hk, rfl, hg, hH, hR, hB⟩ := hrel
    have hfl : (parts.take k).flatten.length < 1152921504606846000 := Nat.lt_of_le_of_lt (flatten_len parts k) HM.out
    by_cases hkn : k < n
    · obtain ⟨ha1, ha2⟩ := Ha.out (by omega)
      subst ha1
      obtain ⟨v, hv, hBy⟩ := HP.out k (by rw [Hn.out]; exact hkn)
      have hc : wr.cell? ⟨sb, so + k, none⟩ = some v := by rw [World.cell?_of_block (hg.block sb ha2 (by simp))]; exact hv
      have hft := flatten_take parts k (by rw [Hn.out]; exact hkn)
      have hW := write_bytes s _ hR (w.heap.size + 1) (by omega) w wr hg (by omega) hH (HL.out.grown hg (by simp) (by simp)) v _ hBy (by
        have := flatten_len parts (k + 1)
        rw [hft, List.length_append] at this
        have := HM.out
        omega)
      rw [← hft] at hW
      have HWr := Lib.hid hW
      have HG := Lib.hid hg
      have HB := Lib.hid hB
      clear hg hH hR hB hfl ha2 hv hBy hft hW
      go_wp2_with (go_at_call 21; refine HWr.out.mono ?_; rintro e w2 ⟨rfl, hg2, s2, hH2, hR2⟩; have HG2 := Lib.hid hg2; have HH2 := Lib.hid hH2; have HR2 := Lib.hid hR2; clear hg2 hH2 hR2)
      go_roundw
      case rel => exact ⟨k + 1, s2, by omega, by go_num, grown_forget HG.out (Nat.le_succ _) HG2.out, HH2.out, HR2.out, (HG2.out.block _ (blk_lt HB.out) (by simp)).trans HB.out⟩
      case measure => simp [intOf]; omega
    · obtain rfl : k = n := by omega
      rw [List.take_of_length_le (by rw [Hn.out]; omega)] at hR hfl
      have hS := hsum_any s _ hR hfl (w.heap.size + 1) (by omega) wr hH (HL.out.grown hg (by simp) (by simp))
      have HS := Lib.hid hS
      have HG := Lib.hid hg
      have HB := Lib.hid hB
      clear hg hH hR hB hfl hS
      go_wp2_with (first
        | (go_at_call 22; refine HS.out.mono ?_; rintro e w2 ⟨rfl, hg2⟩; have HG2 := Lib.hid hg2; clear hg2)
        | (refine wpList_store_row (by rfl) 27 (.tmp 2) (.tmp 18) (by rfl) w.heap.size (bytesV (Sha.sum parts.flatten)) (by rfl) (by rfl) _ _ ((HG2.out.block _ (blk_lt HB.out) (by simp)).trans HB.out) HI3.out HI4.out (bytesV_one _) ?_))
      refine bodyPost_ret (v := .agg (bytesV (Sha.sum parts.flatten))) ?_ rfl ⟨rfl, grown_setRow (grown_trans HG.out HG2.out) (Nat.le_refl _) _⟩
      have HQ := setRow_heap _ _ _ (bytesV (Sha.sum parts.flatten)) _ _ ((HG2.out.block _ (blk_lt HB.out) (by simp)).trans HB.out)
      exact results_cell_row Tryd.results14 _ _ w.heap.size _ _ (0, 0) _ rfl HQ Tryd.underlying27 rfl HI3.out
end Go.Proofs.YtckdkcfhkakcfaaDoor
namespace Go.Proofs.YtckdkcfhkakcfaaDoor
open Go.RowKit

theorem abc_dig : (Sha.sum [97, 98, 99]).take 4 = [186, 120, 22, 191] := by decide +kernel

theorem abc_at : (bytesV (Sha.sum [97, 98, 99]))[0]? = some (.int .u8 186) ∧ (bytesV (Sha.sum [97, 98, 99]))[1]? = some (.int .u8 120) ∧ (bytesV (Sha.sum [97, 98, 99]))[2]? = some (.int .u8 22) ∧ (bytesV (Sha.sum [97, 98, 99]))[3]? = some (.int .u8 191) := by
  have h := abc_dig
  have hl := Sha.sum_len [97, 98, 99]
  generalize Sha.sum [97, 98, 99] = L at *
  match L, h, hl with
  | a :: b :: c :: d :: r, h, hl =>
    simp at h
    obtain ⟨rfl, rfl, rfl, rfl⟩ := h
    simp [bytesV]

theorem freeze_alloc (w : World) (cs : Array Value) (T n : Nat) : (w.alloc (.cells cs T)).freeze ⟨w.heap.size, n, none⟩ 1 = w.alloc (.cells cs T (n, n + 1)) := by
  simp only [World.freeze, World.alloc, if_neg (show ¬ (1 = 0) by decide)]
  congr 1
  apply Array.ext_getElem?
  intro i
  rw [Array.getElem?_modify]
  by_cases h : w.heap.size = i
  · subst h
    simp
  · have h' : ¬ i = w.heap.size := fun e => h e.symm
    simp [h, h', Array.getElem?_push]

theorem conv25 (n : Nat) (w : World) (cs : Array Value) (hcs : cs.size = n) : (convert 25 25 (.slice (some ⟨w.heap.size, 0, none⟩) n n)).run Tryd.prog (w.alloc (.cells cs 5)) =
    .ok (.slice (some ⟨w.heap.size, 0, none⟩) n n) (w.alloc (.cells cs 5 (n, n + 1))) := by
  have hsh : (w.alloc (.cells cs 5)).shape? w.heap.size = some (5, n) := by
    unfold World.shape?
    rw [alloc_at]
    simp [hcs]
  rw [← freeze_alloc]
  simp [convert, go_sem, markStringish, hsh]

set_option maxRecDepth 100000 in
set_option maxHeartbeats 1000000 in
theorem alive_any (w : World) (hL : Laid w) :
    Calls Tryd.prog 11 #[] w fun e w' => e = .returned (.bool true) ∧ w.grownBy w' none := by
  have hsz := hL.size
  obtain ⟨W, hW⟩ : ∃ W, W = ((w.alloc (.cells #[.int .u8 97, .int .u8 98] 5 (2, 3))).alloc (.cells #[.int .u8 99] 5 (1, 2))).alloc (.cells #[.slice (some ⟨w.heap.size, 0, none⟩) 2 2, .slice (some ⟨w.heap.size + 1, 0, none⟩) 1 1] 25) := ⟨_, rfl⟩
  have gW : w.grownBy W none := by rw [hW]; exact grown_alloc (grown_alloc (World.grownBy_alloc _ _ _) _) _
  have hsize : W.heap.size = w.heap.size + 3 := by rw [hW, alloc_size, alloc2_size]
  have hb0 : W.heap[w.heap.size]? = some (.cells #[.int .u8 97, .int .u8 98] 5 (2, 3)) := by
    rw [hW, alloc_old _ _ _ (by rw [alloc2_size]; omega)]; exact alloc2_old _ _ _
  have hb1 : W.heap[w.heap.size + 1]? = some (.cells #[.int .u8 99] 5 (1, 2)) := by
    rw [hW, alloc_old _ _ _ (by rw [alloc2_size]; omega)]; exact alloc2_new _ _ _
  have hb2 : W.heap[w.heap.size + 2]? = some (.cells #[.slice (some ⟨w.heap.size, 0, none⟩) 2 2, .slice (some ⟨w.heap.size + 1, 0, none⟩) 1 1] 25 (0, 0)) := by
    have := alloc_at ((w.alloc (.cells #[.int .u8 97, .int .u8 98] 5 (2, 3))).alloc (.cells #[.int .u8 99] 5 (1, 2))) (.cells #[.slice (some ⟨w.heap.size, 0, none⟩) 2 2, .slice (some ⟨w.heap.size + 1, 0, none⟩) 1 1] 25)
    rw [alloc2_size, ← hW] at this
    exact this
  have hP : PartsAt W (w.heap.size + 2) 0 [[97, 98], [99]] := by
    intro i hi
    match i, hi with
    | 0, _ => exact ⟨_, cell_blk hb2 0 rfl, by simp, some ⟨w.heap.size, 0, none⟩, w.heap.size, 0, 2, rfl, by simp, fun _ => ⟨rfl, by omega⟩, fun j hj => by
        match j, hj with
        | 0, _ => exact cell_blk hb0 0 rfl
        | 1, _ => exact cell_blk hb0 1 rfl⟩
    | 1, _ => exact ⟨_, cell_blk hb2 1 rfl, by simp, some ⟨w.heap.size + 1, 0, none⟩, w.heap.size + 1, 0, 1, rfl, by simp, fun _ => ⟨rfl, by omega⟩, fun j hj => by
        match j, hj with
        | 0, _ => exact cell_blk hb1 0 rfl⟩
  have hS := psum_any [[97, 98], [99]] (some ⟨w.heap.size + 2, 0, none⟩) (w.heap.size + 2) 0 2 2 rfl W (fun _ => ⟨rfl, by omega⟩) hP (by decide) (by decide) (hL.grown gW (by simp) (by simp))
  rw [show [[97, 98], [99]].flatten = [97, 98, 99] from rfl] at hS
  obtain ⟨L, hLd⟩ : ∃ L, L = bytesV (Sha.sum [97, 98, 99]) := ⟨_, rfl⟩
  have ha := abc_at
  rw [← hLd] at hS ha
  have hsz32 : L.size = 32 := by rw [hLd, bytesV_size, Sha.sum_len]
  have HO : Hid (L.all (·.oneCell') = true) := by rw [hLd]; exact Lib.hid (bytesV_one _)
  have HI3 : Hid ((Tryd.prog.info? 27).map (·.size) = some L.size) := by rw [hsz32]; exact Lib.hid (by kernel_rfl)
  have HI4 : Hid (zeros32.size = L.size) := by rw [hsz32]; exact Lib.hid (by kernel_rfl)
  have HA := Lib.hid ha
  clear hLd hsz32 ha
  have HS := Lib.hid hS
  have HW := Lib.hid hW
  have GW := Lib.hid gW
  clear hL hW gW hsize hb0 hb1 hb2 hP hS
  have hz2 := zeros32_at w
  have hconv := conv25 2 w #[.int .u8 97, .int .u8 98] rfl
  have hconv2 := conv25 1 (w.alloc (.cells #[.int .u8 97, .int .u8 98] 5 (2, 3))) #[.int .u8 99] rfl
  rw [alloc_size] at hconv2
  go_enter Tryd.func11, Tryd.ntmps11
  go_wp2_with (first
    | (go_at_call 14; rw [← HW.out]; refine HS.out.mono ?_; rintro e w2 ⟨rfl, hg2⟩; have HG2 := Lib.hid hg2; clear hg2)
    | (refine wpList_store_row (by rfl) 27 (.tmp 1) (.tmp 7) (by rfl) w2.heap.size L (by rfl) (by rfl) _ _ (alloc_at _ _) HI3.out HI4.out HO.out ?_; have hq := setRow_heap _ _ _ L _ _ (alloc_at w2 (.cells zeros32 27)); have c0 := cell_blk hq 0 HA.out.1; have c1 := cell_blk hq 1 HA.out.2.1; have c2 := cell_blk hq 2 HA.out.2.2.1; have c3 := cell_blk hq 3 HA.out.2.2.2; clear hq))
  go_ret
  exact ⟨rfl, grown_setRow (grown_alloc (grown_trans GW.out HG2.out) _) (Nat.le_trans GW.out.size HG2.out.size) _⟩
end Go.Proofs.YtckdkcfhkakcfaaDoor
