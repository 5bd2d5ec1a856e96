/- The walk of the law's alive. -/
import Derived.Test.YtckdkcfhkakcfaaDoorSh10
namespace Go.Proofs.YtckdkcfhkakcfaaDoor
open Go.RowKit

theorem abc_dig : (Sha.sum [97, 98, 99]).take 4 = [186, 120, 22, 191] := by decide +kernel

theorem abc_at : (bytesV (Sha.sum [97, 98, 99]))[0]? = some (.int .u8 186) ∧ (bytesV (Sha.sum [97, 98, 99]))[1]? = some (.int .u8 120) ∧ (bytesV (Sha.sum [97, 98, 99]))[2]? = some (.int .u8 22) ∧ (bytesV (Sha.sum [97, 98, 99]))[3]? = some (.int .u8 191) := by
  have h := abc_dig
  have hl := Sha.sum_len [97, 98, 99]
  generalize Sha.sum [97, 98, 99] = L at *
  match L, h, hl with
  | a :: b :: c :: d :: r, h, hl =>
    simp at h
    obtain ⟨rfl, rfl, rfl, rfl⟩ := h
    simp [bytesV]

theorem freeze_alloc (w : World) (cs : Array Value) (T n : Nat) : (w.alloc (.cells cs T)).freeze ⟨w.heap.size, n, none⟩ 1 = w.alloc (.cells cs T (n, n + 1)) := by
  simp only [World.freeze, World.alloc, if_neg (show ¬ (1 = 0) by decide)]
  congr 1
  apply Array.ext_getElem?
  intro i
  rw [Array.getElem?_modify]
  by_cases h : w.heap.size = i
  · subst h
    simp
  · have h' : ¬ i = w.heap.size := fun e => h e.symm
    simp [h, h', Array.getElem?_push]

theorem conv25 (n : Nat) (w : World) (cs : Array Value) (hcs : cs.size = n) : (convert 25 25 (.slice (some ⟨w.heap.size, 0, none⟩) n n)).run Tryd.prog (w.alloc (.cells cs 5)) =
    .ok (.slice (some ⟨w.heap.size, 0, none⟩) n n) (w.alloc (.cells cs 5 (n, n + 1))) := by
  have hsh : (w.alloc (.cells cs 5)).shape? w.heap.size = some (5, n) := by
    unfold World.shape?
    rw [alloc_at]
    simp [hcs]
  rw [← freeze_alloc]
  simp [convert, go_sem, markStringish, hsh]

set_option maxRecDepth 100000 in
set_option maxHeartbeats 1000000 in
theorem alive_any (w : World) (hL : Laid w) :
    Calls Tryd.prog 11 #[] w fun e w' => e = .returned (.bool true) ∧ w.grownBy w' none := by
  have hsz := hL.size
  obtain ⟨W, hW⟩ : ∃ W, W = ((w.alloc (.cells #[.int .u8 97, .int .u8 98] 5 (2, 3))).alloc (.cells #[.int .u8 99] 5 (1, 2))).alloc (.cells #[.slice (some ⟨w.heap.size, 0, none⟩) 2 2, .slice (some ⟨w.heap.size + 1, 0, none⟩) 1 1] 25) := ⟨_, rfl⟩
  have gW : w.grownBy W none := by rw [hW]; exact grown_alloc (grown_alloc (World.grownBy_alloc _ _ _) _) _
  have hsize : W.heap.size = w.heap.size + 3 := by rw [hW, alloc_size, alloc2_size]
  have hb0 : W.heap[w.heap.size]? = some (.cells #[.int .u8 97, .int .u8 98] 5 (2, 3)) := by
    rw [hW, alloc_old _ _ _ (by rw [alloc2_size]; omega)]; exact alloc2_old _ _ _
  have hb1 : W.heap[w.heap.size + 1]? = some (.cells #[.int .u8 99] 5 (1, 2)) := by
    rw [hW, alloc_old _ _ _ (by rw [alloc2_size]; omega)]; exact alloc2_new _ _ _
  have hb2 : W.heap[w.heap.size + 2]? = some (.cells #[.slice (some ⟨w.heap.size, 0, none⟩) 2 2, .slice (some ⟨w.heap.size + 1, 0, none⟩) 1 1] 25 (0, 0)) := by
    have := alloc_at ((w.alloc (.cells #[.int .u8 97, .int .u8 98] 5 (2, 3))).alloc (.cells #[.int .u8 99] 5 (1, 2))) (.cells #[.slice (some ⟨w.heap.size, 0, none⟩) 2 2, .slice (some ⟨w.heap.size + 1, 0, none⟩) 1 1] 25)
    rw [alloc2_size, ← hW] at this
    exact this
  have hP : PartsAt W (w.heap.size + 2) 0 [[97, 98], [99]] := by
    intro i hi
    match i, hi with
    | 0, _ => exact ⟨_, cell_blk hb2 0 rfl, by simp, some ⟨w.heap.size, 0, none⟩, w.heap.size, 0, 2, rfl, by simp, fun _ => ⟨rfl, by omega⟩, fun j hj => by
        match j, hj with
        | 0, _ => exact cell_blk hb0 0 rfl
        | 1, _ => exact cell_blk hb0 1 rfl⟩
    | 1, _ => exact ⟨_, cell_blk hb2 1 rfl, by simp, some ⟨w.heap.size + 1, 0, none⟩, w.heap.size + 1, 0, 1, rfl, by simp, fun _ => ⟨rfl, by omega⟩, fun j hj => by
        match j, hj with
        | 0, _ => exact cell_blk hb1 0 rfl⟩
  have hS := psum_any [[97, 98], [99]] (some ⟨w.heap.size + 2, 0, none⟩) (w.heap.size + 2) 0 2 2 rfl W (fun _ => ⟨rfl, by omega⟩) hP (by decide) (by decide) (hL.grown gW (by simp) (by simp))
  rw [show [[97, 98], [99]].flatten = [97, 98, 99] from rfl] at hS
  obtain ⟨L, hLd⟩ : ∃ L, L = bytesV (Sha.sum [97, 98, 99]) := ⟨_, rfl⟩
  have ha := abc_at
  rw [← hLd] at hS ha
  have hsz32 : L.size = 32 := by rw [hLd, bytesV_size, Sha.sum_len]
  have HO : Hid (L.all (·.oneCell') = true) := by rw [hLd]; exact Lib.hid (bytesV_one _)
  have HI3 : Hid ((Tryd.prog.info? 27).map (·.size) = some L.size) := by rw [hsz32]; exact Lib.hid (by kernel_rfl)
  have HI4 : Hid (zeros32.size = L.size) := by rw [hsz32]; exact Lib.hid (by kernel_rfl)
  have HA := Lib.hid ha
  clear hLd hsz32 ha
  have HS := Lib.hid hS
  have HW := Lib.hid hW
  have GW := Lib.hid gW
  clear hL hW gW hsize hb0 hb1 hb2 hP hS
  have hz2 := zeros32_at w
  have hconv := conv25 2 w #[.int .u8 97, .int .u8 98] rfl
  have hconv2 := conv25 1 (w.alloc (.cells #[.int .u8 97, .int .u8 98] 5 (2, 3))) #[.int .u8 99] rfl
  rw [alloc_size] at hconv2
  go_enter Tryd.func11, Tryd.ntmps11
  go_wp2_with (first
    | (go_at_call 14; rw [← HW.out]; refine HS.out.mono ?_; rintro e w2 ⟨rfl, hg2⟩; have HG2 := Lib.hid hg2; clear hg2)
    | (refine wpList_store_row (by rfl) 27 (.tmp 1) (.tmp 7) (by rfl) w2.heap.size L (by rfl) (by rfl) _ _ (alloc_at _ _) HI3.out HI4.out HO.out ?_; have hq := setRow_heap _ _ _ L _ _ (alloc_at w2 (.cells zeros32 27)); have c0 := cell_blk hq 0 HA.out.1; have c1 := cell_blk hq 1 HA.out.2.1; have c2 := cell_blk hq 2 HA.out.2.2.1; have c3 := cell_blk hq 3 HA.out.2.2.2; clear hq))
  go_ret
  exact ⟨rfl, grown_setRow (grown_alloc (grown_trans GW.out HG2.out) _) (Nat.le_trans GW.out.size HG2.out.size) _⟩
end Go.Proofs.YtckdkcfhkakcfaaDoor
