/- The walks of Sum, New, Copy. -/
import Derived.Test.YtndgbhgalablfaaDoorSh8
namespace Go.Proofs.YtndgbhgalablfaaDoor
open Go.RowKit

def zeroHash : Array Value := (hsL ⟨⟨0, 0, 0, 0, 0, 0, 0, 0⟩, 0, List.replicate 64 0, 0⟩).toArray
theorem hsL_one (s : Sha.HS) : (hsL s).toArray.all (·.oneCell') = true := by
  simp [hsL, stV, bytesV, Value.oneCell']
theorem hsL_size {s : Sha.HS} (h : s.ok) : (hsL s).toArray.size = 74 := by simpa using hsL_len h
theorem zeroHash_at (_w : World) : ∀ w, (zeroValue 101).run Tryd.prog w = .ok (.agg zeroHash) w := fun _ => by kernel_rfl

set_option maxRecDepth 100000 in
set_option maxHeartbeats 1000000 in
theorem new_any (w : World) :
    Calls Tryd.prog 50 #[] w fun e w' => e = .returned (.pointer (some ⟨w.heap.size, 0, none⟩)) ∧ w' = w.alloc (.cells zeroHash 101) := by
  have hz := zeroHash_at w
  go_enter Tryd.func50, Tryd.ntmps50
  go_wp2
  go_ret
  exact ⟨rfl, rfl⟩


def zeros32 : Array Value := bytesV (List.replicate 32 0)
theorem zeros32_at (_w : World) : ∀ w, (zeroValue 32).run Tryd.prog w = .ok (.agg zeros32) w := fun _ => by kernel_rfl

set_option maxRecDepth 100000 in
set_option maxHeartbeats 1000000 in
theorem hsum_any (s : Sha.HS) (M : List Nat) (hR : Sha.Rep s M) (hM : M.length < 1152921504606846000) (b : Nat) (_hb2 : 30 < b) (w : World) (hH : IsHash w b s) (hL : Laid w) :
    Calls Tryd.prog 53 #[.pointer (some ⟨b, 0, none⟩)] w fun e w' => e = .returned (.agg (bytesV (Sha.sum M))) ∧ w.grownBy w' none := by
  have hz := zeroHash_at w
  have hz2 := zeros32_at w
  have hs := hR.ok
  have hbl := hH.lt
  have g1 : w.grownBy (w.alloc (.cells zeros32 32)) none := World.grownBy_alloc _ _ _
  have hH1 : IsHash (w.alloc (.cells zeros32 32)) b s := hH.grown g1 (by simp)
  have HH := Lib.hid hH1
  have HI : Hid ((Tryd.prog.info? 101).map (·.size) = some (hsL s).toArray.size) := by rw [hsL_size hs]; exact Lib.hid (by kernel_rfl)
  have HI2 : Hid (zeroHash.size = (hsL s).toArray.size) := by rw [hsL_size hs]; exact Lib.hid (by kernel_rfl)
  have HI3 : Hid ((Tryd.prog.info? 32).map (·.size) = some (bytesV (Sha.sum M)).size) := by rw [bytesV_size, Sha.sum_len]; exact Lib.hid (by kernel_rfl)
  have HI4 : Hid (zeros32.size = (bytesV (Sha.sum M)).size) := by rw [bytesV_size, Sha.sum_len]; exact Lib.hid (by kernel_rfl)
  have hz0 := alloc2_new w (.cells zeros32 32) (.cells zeroHash 101)
  have HZ := Lib.hid hz0
  obtain ⟨W, hW⟩ : ∃ W, W = ((w.alloc (.cells zeros32 32)).alloc (.cells zeroHash 101)).setRow (w.heap.size + 1) (hsL s).toArray := ⟨_, rfl⟩
  have gW : w.grownBy W none := by rw [hW]; exact grown_setRow (grown_alloc g1 _) (by omega) _
  have hHW : IsHash W (w.heap.size + 1) s := by rw [hW]; exact setRow_heap _ _ _ _ _ _ hz0
  have hBW : W.heap[w.heap.size]? = some (.cells zeros32 32 (0, 0)) := by rw [hW, setRow_other _ _ _ _ (by omega)]; exact alloc2_old _ _ _
  have hP := pad_any s M hR hM (w.heap.size + 1) (by have := hL.size; omega) W hHW (hL.grown gW (by simp) (by simp))
  have HP := Lib.hid hP
  have GW := Lib.hid gW
  have HBW := Lib.hid hBW
  have HW := Lib.hid hW
  clear hR hH hL hs hH1 g1 hz0 gW hHW hBW hP hW
  go_enter Tryd.func53, Tryd.ntmps53
  go_wp2_with (first
    | (refine wpList_load_row (by rfl) 101 (.tmp 5) (by rfl) b (by rfl) _ (hsL s).toArray (0, 0) _ HH.out Tryd.underlying101 (by rfl) HI.out ?_)
    | (refine wpList_store_row (by rfl) 101 (.tmp 3) (.tmp 6) (by rfl) (w.heap.size + 1) (hsL s).toArray (by rfl) (by rfl) _ _ HZ.out HI.out HI2.out (hsL_one s) ?_; rw [← HW.out])
    | (go_at_call 67; refine HP.out.mono ?_; rintro e w2 ⟨rfl, hg2, s', hH2, hR2⟩; have G2 := Lib.hid hg2; have H2 := Lib.hid hH2; have R2 := Lib.hid hR2; clear hg2 hH2 hR2)
    | (go_at_call 68; refine (digest_any s' R2.out.ok (w.heap.size + 1) w2 H2.out).mono ?_; rintro e w3 ⟨rfl, hg3⟩; rw [R2.out.sum]; have G3 := Lib.hid hg3; clear hg3)
    | (refine wpList_store_row (by rfl) 32 (.tmp 2) (.tmp 9) (by rfl) w.heap.size (bytesV (Sha.sum M)) (by rfl) (by rfl) _ _ ((G3.out.block _ (by have := G2.out.size; have := blk_lt HBW.out; omega) (by simp)).trans ((G2.out.block _ (blk_lt HBW.out) (by simp)).trans HBW.out)) HI3.out HI4.out (bytesV_one _) ?_))
  have g3 := grown_trans (grown_forget GW.out (Nat.le_succ _) G2.out) G3.out
  refine bodyPost_ret (v := .agg (bytesV (Sha.sum M))) ?_ rfl ⟨rfl, grown_setRow g3 (Nat.le_refl _) _⟩
  have hB3 := (G3.out.block _ (by have := G2.out.size; have := blk_lt HBW.out; omega) (by simp)).trans ((G2.out.block _ (blk_lt HBW.out) (by simp)).trans HBW.out)
  have HQ := setRow_heap _ _ _ (bytesV (Sha.sum M)) _ _ hB3
  exact results_cell_row Tryd.results53 _ _ w.heap.size _ _ (0, 0) _ rfl HQ Tryd.underlying32 rfl HI3.out

/-- Slices of bytes in a slice: the value of each part. -/
def PartsAt (w : World) (sb so : Nat) (parts : List (List Nat)) : Prop :=
  ∀ i, i < parts.length → ∃ v, w.cell? ⟨sb, so + i, none⟩ = some v ∧ Bytes w v (parts.getD i [])
end Go.Proofs.YtndgbhgalablfaaDoor
