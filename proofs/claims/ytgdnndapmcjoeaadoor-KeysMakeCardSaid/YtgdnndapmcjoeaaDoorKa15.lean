import Derived.Test.YtgdnndapmcjoeaaDoorKa14
namespace Go.Proofs.YtgdnndapmcjoeaaDoor
open Go.RowKit
def zeroHash : Array Value := (hsL ⟨⟨0, 0, 0, 0, 0, 0, 0, 0⟩, 0, List.replicate 64 0, 0⟩).toArray
theorem hsL_one (s : Sha.HS) : (hsL s).toArray.all (·.oneCell') = true := by
  simp [hsL, stV, bytesV, Value.oneCell']
theorem hsL_size {s : Sha.HS} (h : s.ok) : (hsL s).toArray.size = 74 := by simpa using hsL_len h
theorem zeroHash_at (_w : World) : ∀ w, (zeroValue 142).run Tryd.prog w = .ok (.agg zeroHash) w := fun _ => by kernel_rfl
set_option maxRecDepth 100000 in
set_option maxHeartbeats 1000000 in
theorem new_any (w : World) :
    Calls Tryd.prog 56 #[] w fun e w' => e = .returned (.pointer (some ⟨w.heap.size, 0, none⟩)) ∧ w' = w.alloc (.cells zeroHash 142) := by
  have hz := zeroHash_at w
  go_enter Tryd.func56, Tryd.ntmps56
  go_wp2
  go_ret
  exact ⟨rfl, rfl⟩
def zeros32 : Array Value := bytesV (List.replicate 32 0)
theorem zeros32_at (_w : World) : ∀ w, (zeroValue 64).run Tryd.prog w = .ok (.agg zeros32) w := fun _ => by kernel_rfl
set_option maxRecDepth 100000 in
set_option maxHeartbeats 1000000 in
theorem hsum_any (s : Sha.HS) (M : List Nat) (hR : Sha.Rep s M) (hM : M.length < 1152921504606846000) (b : Nat) (_hb2 : 29 < b) (w : World) (hH : IsHash w b s) (hL : Laid w) :
    Calls Tryd.prog 59 #[.pointer (some ⟨b, 0, none⟩)] w fun e w' => e = .returned (.agg (bytesV (Sha.sum M))) ∧ w.grownBy w' none := by
  have hz := zeroHash_at w
  have hz2 := zeros32_at w
  have hs := hR.ok
  have hbl := hH.lt
  have g1 : w.grownBy (w.alloc (.cells zeros32 64)) none := World.grownBy_alloc _ _ _
  have hH1 : IsHash (w.alloc (.cells zeros32 64)) b s := hH.grown g1 (by simp)
  have HH := Lib.hid hH1
  have HI : Hid ((Tryd.prog.info? 142).map (·.size) = some (hsL s).toArray.size) := by rw [hsL_size hs]; exact Lib.hid (by kernel_rfl)
  have HI2 : Hid (zeroHash.size = (hsL s).toArray.size) := by rw [hsL_size hs]; exact Lib.hid (by kernel_rfl)
  have HI3 : Hid ((Tryd.prog.info? 64).map (·.size) = some (bytesV (Sha.sum M)).size) := by rw [bytesV_size, Sha.sum_len]; exact Lib.hid (by kernel_rfl)
  have HI4 : Hid (zeros32.size = (bytesV (Sha.sum M)).size) := by rw [bytesV_size, Sha.sum_len]; exact Lib.hid (by kernel_rfl)
  have hz0 := alloc2_new w (.cells zeros32 64) (.cells zeroHash 142)
  have HZ := Lib.hid hz0
  obtain ⟨W, hW⟩ : ∃ W, W = ((w.alloc (.cells zeros32 64)).alloc (.cells zeroHash 142)).setRow (w.heap.size + 1) (hsL s).toArray := ⟨_, rfl⟩
  have gW : w.grownBy W none := by rw [hW]; exact grown_setRow (grown_alloc g1 _) (by omega) _
  have hHW : IsHash W (w.heap.size + 1) s := by rw [hW]; exact setRow_heap _ _ _ _ _ _ hz0
  have hBW : W.heap[w.heap.size]? = some (.cells zeros32 64 (0, 0)) := by rw [hW, setRow_other _ _ _ _ (by omega)]; exact alloc2_old _ _ _
  have hP := pad_any s M hR hM (w.heap.size + 1) (by have := hL.size; omega) W hHW (hL.grown gW (by simp) (by simp))
  have HP := Lib.hid hP
  have GW := Lib.hid gW
  have HBW := Lib.hid hBW
  have HW := Lib.hid hW
  clear hR hH hL hs hH1 g1 hz0 gW hHW hBW hP hW
  go_enter Tryd.func59, Tryd.ntmps59
  go_wp2_with (first
    | (refine wpList_load_row (by rfl) 142 (.tmp 5) (by rfl) b (by rfl) _ (hsL s).toArray (0, 0) _ HH.out Tryd.underlying142 (by rfl) HI.out ?_)
    | (refine wpList_store_row (by rfl) 142 (.tmp 3) (.tmp 6) (by rfl) (w.heap.size + 1) (hsL s).toArray (by rfl) (by rfl) _ _ HZ.out HI.out HI2.out (hsL_one s) ?_; rw [← HW.out])
    | (go_at_call 69; refine HP.out.mono ?_; rintro e w2 ⟨rfl, hg2, s', hH2, hR2⟩; have G2 := Lib.hid hg2; have H2 := Lib.hid hH2; have R2 := Lib.hid hR2; clear hg2 hH2 hR2)
    | (go_at_call 70; refine (digest_any s' R2.out.ok (w.heap.size + 1) w2 H2.out).mono ?_; rintro e w3 ⟨rfl, hg3⟩; rw [R2.out.sum]; have G3 := Lib.hid hg3; clear hg3)
    | (refine wpList_store_row (by rfl) 64 (.tmp 2) (.tmp 9) (by rfl) w.heap.size (bytesV (Sha.sum M)) (by rfl) (by rfl) _ _ ((G3.out.block _ (by have := G2.out.size; have := blk_lt HBW.out; omega) (by simp)).trans ((G2.out.block _ (blk_lt HBW.out) (by simp)).trans HBW.out)) HI3.out HI4.out (bytesV_one _) ?_))
  have g3 := grown_trans (grown_forget GW.out (Nat.le_succ _) G2.out) G3.out
  refine bodyPost_ret (v := .agg (bytesV (Sha.sum M))) ?_ rfl ⟨rfl, grown_setRow g3 (Nat.le_refl _) _⟩
  have hB3 := (G3.out.block _ (by have := G2.out.size; have := blk_lt HBW.out; omega) (by simp)).trans ((G2.out.block _ (blk_lt HBW.out) (by simp)).trans HBW.out)
  have HQ := setRow_heap _ _ _ (bytesV (Sha.sum M)) _ _ hB3
  exact results_cell_row Tryd.results59 _ _ w.heap.size _ _ (0, 0) _ rfl HQ Tryd.underlying64 rfl HI3.out
/-- Slices of bytes in a slice: the value of each part. -/
def PartsAt (w : World) (sb so : Nat) (parts : List (List Nat)) : Prop :=
  ∀ i, i < parts.length → ∃ v, w.cell? ⟨sb, so + i, none⟩ = some v ∧ Bytes w v (parts.getD i [])
end Go.Proofs.YtgdnndapmcjoeaaDoor
namespace Go.Proofs.YtgdnndapmcjoeaaDoor
open Go.RowKit
theorem flatten_take (parts : List (List Nat)) (k : Nat) (hk : k < parts.length) : (parts.take (k + 1)).flatten = (parts.take k).flatten ++ parts.getD k [] := by
  rw [List.take_add_one, List.flatten_append, List.getElem?_eq_getElem hk]
  simp [List.getElem?_eq_getElem hk]
theorem flatten_len (parts : List (List Nat)) : ∀ k, ((parts.take k).flatten).length ≤ parts.flatten.length := fun k => by
  have : parts.flatten = (parts.take k).flatten ++ (parts.drop k).flatten := by rw [← List.flatten_append, List.take_append_drop]
  rw [this, List.length_append]; omega
/-- Any writer, from whatever world the parts are still there. -/
theorem write_bytes (s : Sha.HS) (M : List Nat) (hR : Sha.Rep s M) (b : Nat) (hb2 : 29 < b) (w0 w : World) (hg : w0.grownBy w none) (hb : w0.heap.size ≤ b) (hH : IsHash w b s) (hL : Laid w) (v : Value) (l : List Nat) (hB : Bytes w0 v l) (hM : M.length + l.length < 1152921504606846976) :
    Calls Tryd.prog 57 #[.pointer (some ⟨b, 0, none⟩), v] w fun e w' =>
      e = .returned (.tuple #[]) ∧ w.grownBy w' (some b) ∧ ∃ s', IsHash w' b s' ∧ Sha.Rep s' (M ++ l) := by
  obtain ⟨h1, a, sb, so, c, rfl, h3, h4, h5⟩ := hB
  exact write_core s M hR b hb2 w hH hL l h1 hM a sb so l.length c rfl h3 (fun h => ⟨(h4 h).1, Nat.lt_of_lt_of_le (h4 h).2 hg.size, by have := (h4 h).2; omega⟩)
    (fun j hj => by rw [World.cell?_of_block (hg.block sb (h4 (by omega)).2 (by simp))]; exact h5 j hj) (by omega)
set_option maxRecDepth 100000 in
set_option maxHeartbeats 1000000 in
theorem psum_any (parts : List (List Nat)) (a : Option Addr) (sb so n c : Nat) (hn : parts.length = n) (w : World) (ha : 0 < n → a = some ⟨sb, so, none⟩ ∧ sb < w.heap.size) (hP : PartsAt w sb so parts)
    (hM : parts.flatten.length < 1152921504606846000) (hnn : n < 1152921504606846000) (hL : Laid w) :
    Calls Tryd.prog 60 #[.slice a n c] w fun e w' => e = .returned (.agg (bytesV (Sha.sum parts.flatten))) ∧ w.grownBy w' none := by
  have hz2 := zeros32_at w
  have HI3 : Hid ((Tryd.prog.info? 64).map (·.size) = some (bytesV (Sha.sum parts.flatten)).size) := by rw [bytesV_size, Sha.sum_len]; exact Lib.hid (by kernel_rfl)
  have HI4 : Hid (zeros32.size = (bytesV (Sha.sum parts.flatten)).size) := by rw [bytesV_size, Sha.sum_len]; exact Lib.hid (by kernel_rfl)
  have hnew := new_any (w.alloc (.cells zeros32 64))
  rw [alloc_size] at hnew
  have HN := Lib.hid hnew
  have HL := Lib.hid hL
  have HP := Lib.hid hP
  have Ha := Lib.hid ha
  have Hn := Lib.hid hn
  have HM := Lib.hid hM
  have hsz := hL.size
  clear hL hP ha hn hM hnew
  go_enter Tryd.func60, Tryd.ntmps60
  go_wp2_with (go_at_call 56; refine HN.out.mono ?_; rintro e w1 ⟨rfl, hw1⟩; have HW1 := Lib.hid hw1; clear hw1)
  have hw1 := HW1.out
  have g1 : w.grownBy w1 none := by rw [hw1]; exact grown_alloc (World.grownBy_alloc _ _ _) _
  have h1 : IsHash w1 (w.heap.size + 1) ⟨⟨0, 0, 0, 0, 0, 0, 0, 0⟩, 0, List.replicate 64 0, 0⟩ := by rw [hw1]; exact alloc2_new _ _ _
  have b1 : w1.heap[w.heap.size]? = some (.cells zeros32 64 (0, 0)) := by rw [hw1]; exact alloc2_old _ _ _
  have G1 := Lib.hid g1
  have H1 := Lib.hid h1
  have B1 := Lib.hid b1
  clear hw1 g1 h1 b1
  go_loopw [9] (fun i wr => ∃ (k : Nat) (s : Sha.HS), k ≤ n ∧ i = .int .i64 k ∧ w.grownBy wr none ∧ IsHash wr (w.heap.size + 1) s ∧ Sha.Rep s (parts.take k).flatten ∧ wr.heap[w.heap.size]? = some (.cells zeros32 64 (0, 0))) (fun i _ => n - (intOf i).toNat)
  case atStart => exact ⟨0, _, Nat.zero_le _, rfl, G1.out, H1.out, by simpa using Sha.rep_new, B1.out⟩
  case round =>
    obtain ⟨k, s, hk, rfl, hg, hH, hR, hB⟩ := hrel
    have hfl : (parts.take k).flatten.length < 1152921504606846000 := Nat.lt_of_le_of_lt (flatten_len parts k) HM.out
    by_cases hkn : k < n
    · obtain ⟨ha1, ha2⟩ := Ha.out (by omega)
      subst ha1
      obtain ⟨v, hv, hBy⟩ := HP.out k (by rw [Hn.out]; exact hkn)
      have hc : wr.cell? ⟨sb, so + k, none⟩ = some v := by rw [World.cell?_of_block (hg.block sb ha2 (by simp))]; exact hv
      have hft := flatten_take parts k (by rw [Hn.out]; exact hkn)
      have hW := write_bytes s _ hR (w.heap.size + 1) (by omega) w wr hg (by omega) hH (HL.out.grown hg (by simp) (by simp)) v _ hBy (by
        have := flatten_len parts (k + 1)
        rw [hft, List.length_append] at this
        have := HM.out
        omega)
      rw [← hft] at hW
      have HWr := Lib.hid hW
      have HG := Lib.hid hg
      have HB := Lib.hid hB
      clear hg hH hR hB hfl ha2 hv hBy hft hW
      go_wp2_with (go_at_call 57; refine HWr.out.mono ?_; rintro e w2 ⟨rfl, hg2, s2, hH2, hR2⟩; have HG2 := Lib.hid hg2; have HH2 := Lib.hid hH2; have HR2 := Lib.hid hR2; clear hg2 hH2 hR2)
      go_roundw
      case rel => exact ⟨k + 1, s2, by omega, by go_num, grown_forget HG.out (Nat.le_succ _) HG2.out, HH2.out, HR2.out, (HG2.out.block _ (blk_lt HB.out) (by simp)).trans HB.out⟩
      case measure => simp [intOf]; omega
    · obtain rfl : k = n := by omega
      rw [List.take_of_length_le (by rw [Hn.out]; omega)] at hR hfl
      have hS := hsum_any s _ hR hfl (w.heap.size + 1) (by omega) wr hH (HL.out.grown hg (by simp) (by simp))
      have HS := Lib.hid hS
      have HG := Lib.hid hg
      have HB := Lib.hid hB
      clear hg hH hR hB hfl hS
      go_wp2_with (first
        | (go_at_call 59; refine HS.out.mono ?_; rintro e w2 ⟨rfl, hg2⟩; have HG2 := Lib.hid hg2; clear hg2)
        | (refine wpList_store_row (by rfl) 64 (.tmp 2) (.tmp 18) (by rfl) w.heap.size (bytesV (Sha.sum parts.flatten)) (by rfl) (by rfl) _ _ ((HG2.out.block _ (blk_lt HB.out) (by simp)).trans HB.out) HI3.out HI4.out (bytesV_one _) ?_))
      refine bodyPost_ret (v := .agg (bytesV (Sha.sum parts.flatten))) ?_ rfl ⟨rfl, grown_setRow (grown_trans HG.out HG2.out) (Nat.le_refl _) _⟩
      have HQ := setRow_heap _ _ _ (bytesV (Sha.sum parts.flatten)) _ _ ((HG2.out.block _ (blk_lt HB.out) (by simp)).trans HB.out)
      exact results_cell_row Tryd.results60 _ _ w.heap.size _ _ (0, 0) _ rfl HQ Tryd.underlying64 rfl HI3.out
end Go.Proofs.YtgdnndapmcjoeaaDoor
namespace Go.Proofs.YtgdnndapmcjoeaaDoor
open Go.RowKit
theorem freeze_alloc (w : World) (cs : Array Value) (T n : Nat) : (w.alloc (.cells cs T)).freeze ⟨w.heap.size, n, none⟩ 1 = w.alloc (.cells cs T (n, n + 1)) := by
  simp only [World.freeze, World.alloc, if_neg (show ¬ (1 = 0) by decide)]
  congr 1
  apply Array.ext_getElem?
  intro i
  rw [Array.getElem?_modify]
  by_cases h : w.heap.size = i
  · subst h
    simp
  · have h' : ¬ i = w.heap.size := fun e => h e.symm
    simp [h, h', Array.getElem?_push]
theorem conv25 (n : Nat) (w : World) (cs : Array Value) (hcs : cs.size = n) : (convert 22 22 (.slice (some ⟨w.heap.size, 0, none⟩) n n)).run Tryd.prog (w.alloc (.cells cs 5)) =
    .ok (.slice (some ⟨w.heap.size, 0, none⟩) n n) (w.alloc (.cells cs 5 (n, n + 1))) := by
  have hsh : (w.alloc (.cells cs 5)).shape? w.heap.size = some (5, n) := by
    unfold World.shape?
    rw [alloc_at]
    simp [hcs]
  rw [← freeze_alloc]
  simp [convert, go_sem, markStringish, hsh]
end Go.Proofs.YtgdnndapmcjoeaaDoor
