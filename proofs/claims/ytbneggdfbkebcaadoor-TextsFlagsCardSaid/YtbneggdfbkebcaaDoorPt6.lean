/- The walk of the document's Flags. -/
import Derived.Test.YtbneggdfbkebcaaDoorPt5
import Derived.Test.YtbneggdfbkebcaaDoorMs4
import Derived.Test.YtbneggdfbkebcaaDoorSub
import Derived.Test.YtbneggdfbkebcaaDoorLib
import Derived.Test.YtbneggdfbkebcaaDoorChecked
import Derived.WalkKit
import Derived.BigQuiet
import Derived.Lib.Hide
namespace Go.Proofs.YtbneggdfbkebcaaDoor
open Go.RowKit
set_option linter.unusedVariables false

theorem makeB (L : Nat) (hL : L ≤ 100) (W : World) : (Instr.makeSlice 24 (.int .i64 (L : Int)) (.int .i64 (L : Int))).run Tryd.prog W = .ok (.slice (some ⟨W.heap.size, 0, none⟩) L L) (W.alloc (.cells (bytesV (List.replicate L 0)) 5)) := by
  obtain ⟨iT, i1, i2, i3, i4⟩ := info_parts (P := Tryd.prog) (e := 5) (z := .int .u8 0) (size := 1) (bytes := 1) (by kernel_rfl)
  rw [run_makeSlice W 24 5 iT (.int .u8 0) Tryd.underlying24 i1 i2 .i64 .i64 L L (by omega) (by omega) (by rw [i3]; simp; omega) (by rw [i4]; simp; omega) (by omega), i3]
  have e : madeCells (Value.int IntKind.u8 0).cells (Int.toNat (L : Int) * 1) = bytesV (List.replicate L 0) := by
    simp [madeCells, bytesV, Value.cells]
    apply Array.ext
    · simp
    · intro i h1 h2
      simp [Nat.mod_one]
  rw [e]
  rfl
theorem shr_nat (m i : Nat) : ((m : Int) / 2 ^ i).tmod 2 = ((m / 2 ^ i % 2 : Nat) : Int) := by
  have e : ((m : Int) / 2 ^ i) = ((m / 2 ^ i : Nat) : Int) := by rw [Int.natCast_ediv, Int.natCast_pow]; rfl
  rw [e, Int.tmod_eq_emod_of_nonneg (Int.natCast_nonneg _), Int.natCast_emod]
  rfl
theorem shr_nat' (m i : Nat) : ((m : Int) / 2 ^ i) % 2 = ((m / 2 ^ i % 2 : Nat) : Int) := by
  have e : ((m : Int) / 2 ^ i) = ((m / 2 ^ i : Nat) : Int) := by rw [Int.natCast_ediv, Int.natCast_pow]; rfl
  rw [e, Int.natCast_emod]
  rfl
namespace Pt
/-- The row so far. -/
def rowV (L u m i : Nat) : Array Value := bytesV ((rowL u m i).take L)
theorem rowV_zero {L : Nat} (h1 : 1 ≤ L) (h3 : L ≤ 3) (u m : Nat) : (bytesV (List.replicate L 0)).setIfInBounds 0 (.int .u8 (u : Int)) = rowV L u m 0 := by
  have e : rowL u m 0 = [u, 0, 0] := by
    rw [rowL, Nat.pow_zero, Nat.mod_one]; rfl
  unfold rowV
  rw [e]
  match L, h1, h3 with
  | 1, _, _ => rfl
  | 2, _, _ => rfl
  | 3, _, _ => rfl
theorem take_set (l : List Nat) (L k x : Nat) : (l.set k x).take L = (l.take L).set k x := by
  rw [List.take_set]
theorem bytesV_set (l : List Nat) (k x : Nat) : (bytesV l).setIfInBounds k (.int .u8 (x : Int)) = bytesV (l.set k x) := by
  unfold bytesV
  rw [List.setIfInBounds_toArray, List.map_set]
theorem rowV_step {L u m i : Nat} (hm : m < 32768) (hi : i < 15) (hb : m / 2 ^ i % 2 = 1) : (rowV L u m i).setIfInBounds (1 + i / 8) (.int .u8 (((rowL u m i).getD (1 + i / 8) 0 + 2 ^ (7 - i % 8) : Nat) : Int)) = rowV L u m (i + 1) := by
  unfold rowV
  rw [bytesV_set, ← take_set, rowL_step u hm hi, if_pos hb]
theorem set_same (l : List Nat) (k : Nat) : l.set k (l.getD k 0) = l := by
  apply List.ext_getElem?
  intro j
  rw [List.getElem?_set]
  split
  · rename_i h
    subst h
    split
    · rename_i h; rw [List.getD_eq_getElem?_getD, List.getElem?_eq_getElem h]; rfl
    · rename_i h; rw [List.getElem?_eq_none (by omega)]
  · rfl
theorem rowV_stay {L u m i : Nat} (hm : m < 32768) (hi : i < 15) (hb : m / 2 ^ i % 2 ≠ 1) : rowV L u m (i + 1) = rowV L u m i := by
  unfold rowV
  rw [rowL_step u hm hi, if_neg hb, Nat.add_zero, set_same]
theorem rowV_at {L u m i q : Nat} (hq : q < L) (h3 : L ≤ 3) : (rowV L u m i)[q]? = some (.int .u8 (((rowL u m i).getD q 0 : Nat) : Int)) := by
  unfold rowV
  have e : ((rowL u m i).take L).length = L := by rw [List.length_take]; simp [rowL]; omega
  rw [bytesV_at _ q (by omega)]
  rw [List.getD_eq_getElem?_getD, List.getElem?_take, if_pos hq, ← List.getD_eq_getElem?_getD]
theorem row_room {u m i : Nat} (hm : m < 32768) (hi : i < 15) (hu : u < 256) (hb : m / 2 ^ i % 2 = 1) : (rowL u m i).getD (1 + i / 8) 0 + 2 ^ (7 - i % 8) < 256 := by
  have h := rowL_lt u m (i + 1) hu (1 + i / 8)
  rw [rowL_step u hm hi, if_pos hb] at h
  rw [List.getD_eq_getElem?_getD, List.getElem?_set, if_pos rfl, if_pos (by simp [rowL]; omega)] at h
  exact h
theorem shr128 : ∀ i : Fin 8, (128 : Int) / 2 ^ i.val = ((2 ^ (7 - i.val) : Nat) : Int) := by decide
end Pt

set_option maxRecDepth 100000 in
set_option maxHeartbeats 2000000 in
theorem refFlags_any (m : Nat) (hm : m < 32768) (w : World) : Calls Tryd.prog 18 #[.int .i64 (m : Int)] w fun e w' => ∃ v, e = .returned v ∧ Bytes w' v (Pt.flags m) ∧ w.grownBy w' none := by
  have HB := Lib.hid (shr_nat m)
  have HSz := Lib.hid (Pt.size_step m)
  have H15 := Lib.hid (Pt.size_15 hm)
  have HM15 : Hid (m % 2 ^ 15 = m) := Lib.hid (Nat.mod_eq_of_lt hm)
  have HSl : Hid (∀ i, i ≤ 15 → Pt.size (m % 2 ^ i) ≤ 15) := Lib.hid (fun i _ => Pt.size_15 (Nat.lt_of_le_of_lt (Nat.mod_le _ _) hm))
  have HS0 : Hid (Pt.size (m % 2 ^ 0) = 0) := Lib.hid (by rw [Nat.pow_zero, Nat.mod_one]; rfl)
  go_enter Tryd.func18, Tryd.ntmps18
  go_wp2
  go_loopw [3, 4] (fun n i wr => ∃ j : Nat, j ≤ 15 ∧ i = .int .i64 (j : Int) ∧ n = .int .i64 ((Pt.size (m % 2 ^ j) : Nat) : Int) ∧ wr = w) (fun _ i _ => 15 - (intOf i).toNat)
  case atStart => exact ⟨0, Nat.zero_le _, rfl, by rw [HS0.out]; rfl, rfl⟩
  case round =>
    obtain ⟨j, hj, rfl, rfl, rfl⟩ := hrel
    by_cases hlt : j < 15
    · have hb := HB.out j
      have hs := HSz.out j
      obtain ⟨b, hbb⟩ : ∃ b, b = m / 2 ^ j % 2 := ⟨_, rfl⟩
      rw [← hbb] at hb hs
      have hb2 : b < 2 := by rw [hbb]; exact Nat.mod_lt _ (by decide)
      clear hbb
      by_cases h1 : b = 1
      · subst h1
        have hb : ((m : Int) / 2 ^ j).tmod 2 = 1 := hb
        rw [if_pos rfl] at hs
        have HS := Lib.hid hs
        generalize Pt.size (m % 2 ^ j) = z at *
        clear hs
        go_wp2
        go_roundw
        case rel => exact ⟨j + 1, by omega, by go_num, by rw [HS.out]; go_num, trivial⟩
        case measure => simp [intOf]; omega
      · obtain rfl : b = 0 := by omega
        have hb : ((m : Int) / 2 ^ j).tmod 2 = 0 := hb
        rw [if_neg (by decide)] at hs
        have HS := Lib.hid hs
        generalize Pt.size (m % 2 ^ j) = z at *
        clear hs
        go_wp2
        go_roundw
        case rel => exact ⟨j + 1, by omega, by go_num, by rw [HS.out], trivial⟩
        case measure => simp [intOf]; omega
    · obtain rfl : j = 15 := by omega
      rw [HM15.out]
      obtain ⟨k, hk⟩ : ∃ k, k = Pt.size m := ⟨_, rfl⟩
      have hk15 := H15.out
      rw [← hk] at hk15 ⊢
      obtain ⟨L, hL⟩ : ∃ L, L = 1 + (k + 7) / 8 := ⟨_, rfl⟩
      have hLI : (1 : Int) + ((k : Int) + 7) / 8 = (L : Int) := by omega
      have hL1 : 1 ≤ L := by omega
      have hL3 : L ≤ 3 := by omega
      have hmk := makeB L (by omega) wr
      obtain ⟨u, hu⟩ : ∃ u, u = 8 * (L - 1) - k := ⟨_, rfl⟩
      have hu7 : u ≤ 7 := by omega
      have huI : ((L : Int) - 1) * 8 - (k : Int) = (u : Int) := by omega
      have HEnd : Hid ((Pt.rowL u m k).take L = Pt.flags m) := Lib.hid (by rw [hu, hL, hk, Nat.add_sub_cancel_left]; exact Pt.flags_take hm)
      have HG := Lib.hid (World.grownBy_alloc wr (.cells (bytesV (List.replicate L 0)) 5) none)
      have hrow := alloc_at wr (.cells (bytesV (List.replicate L 0)) 5)
      obtain ⟨W1, hW1⟩ : ∃ W1, W1 = wr.alloc (.cells (bytesV (List.replicate L 0)) 5) := ⟨_, rfl⟩
      rw [← hW1] at hmk HG hrow
      have x0 : W1.cell? ⟨wr.heap.size, 0, none⟩ = some (.int .u8 0) := cell_blk hrow 0 (by rw [bytesV_at _ 0 (by simp; omega)]; simp [List.getD_eq_getElem?_getD]; rw [List.getElem?_replicate, if_pos (by omega)]; rfl)
      have y0 := free_blk hrow 0
      have HR0 : Hid ((W1.setCell ⟨wr.heap.size, 0, none⟩ (.int .u8 (u : Int))).heap[wr.heap.size]? = some (.cells (Pt.rowV L u m 0) 5 (0, 0))) := Lib.hid (by
        rw [setCell_heap hrow, Pt.rowV_zero hL1 hL3])
      have HG0 : Hid (wr.grownBy (W1.setCell ⟨wr.heap.size, 0, none⟩ (.int .u8 (u : Int))) none) := Lib.hid (grown_set HG.out (.inl (Nat.le_refl _)) _)
      have hkL : ∀ i, i < k → 1 + i / 8 < L := fun i hi => by omega
      have HKL := Lib.hid hkL
      clear hrow hW1 hL hu hk hkL
      go_wp2
      obtain ⟨w2, hw2⟩ : ∃ w2, w2 = W1.setCell ⟨wr.heap.size, 0, none⟩ (.int .u8 (u : Int)) := ⟨_, rfl⟩
      rw [← hw2] at HR0 HG0 ⊢
      obtain ⟨wo, hwo⟩ : ∃ wo : World, wo = wr := ⟨_, rfl⟩
      rw [← hwo] at HR0 HG0 ⊢
      have HWo := Lib.hid hwo
      clear hw2 hmk x0 y0 hwo HG hLI huI
      go_loopw [6] (fun i wr => ∃ j : Nat, j ≤ k ∧ i = .int .i64 (j : Int) ∧ wr.heap[wo.heap.size]? = some (.cells (Pt.rowV L u m j) 5 (0, 0)) ∧ wo.grownBy wr none) (fun i _ => k - (intOf i).toNat)
      case atStart => exact ⟨0, Nat.zero_le _, rfl, HR0.out, HG0.out⟩
      case round =>
        obtain ⟨j, hj, rfl, hr, hg⟩ := hrel
        have HR := Lib.hid hr
        have HGr := Lib.hid hg
        clear hg
        by_cases hlt : j < k
        · have hq := HKL.out j hlt
          have hb := HB.out j
          by_cases h1 : m / 2 ^ j % 2 = 1
          · rw [h1] at hb
            have hb : ((m : Int) / 2 ^ j).tmod 2 = 1 := hb
            have hb' : ((m : Int) / 2 ^ j) % 2 = 1 := by rw [shr_nat', h1]; rfl
            have hat := Pt.rowV_at (L := L) (u := u) (m := m) (i := j) hq hL3
            have hroom := Pt.row_room (u := u) hm (show j < 15 by omega) (by omega) h1
            have HSt := Lib.hid (Pt.rowV_step (L := L) (u := u) hm (show j < 15 by omega) h1)
            have hd := Pt.shr128 ⟨j % 8, Nat.mod_lt _ (by decide)⟩
            simp only at hd
            obtain ⟨r, hrr⟩ : ∃ r, r = j % 8 := ⟨_, rfl⟩
            have hri : (j : Int) % 8 = (r : Int) := by omega
            have hr8 : r < 8 := by omega
            rw [← hrr] at hroom HSt hd
            obtain ⟨q, hqq⟩ : ∃ q, q = 1 + j / 8 := ⟨_, rfl⟩
            have hqi : (1 : Int) + (j : Int) / 8 = (q : Int) := by omega
            rw [← hqq] at hq hat hroom HSt
            generalize (Pt.rowL u m j).getD q 0 = x at *
            generalize 2 ^ (7 - r) = d at *
            have x1 := cell_blk hr q hat
            have y1 := free_blk hr q
            clear hr hat hqq hrr h1
            have HE : Hid ((wr.setCell ⟨wo.heap.size, q, none⟩ (.int .u8 ((x : Int) + (d : Int)))).heap[wo.heap.size]? = some (.cells (Pt.rowV L u m (j + 1)) 5 (0, 0))) := Lib.hid (by
              rw [setCell_heap HR.out, ← HSt.out, show (x : Int) + (d : Int) = ((x + d : Nat) : Int) by omega])
            have HGe : Hid (wo.grownBy (wr.setCell ⟨wo.heap.size, q, none⟩ (.int .u8 ((x : Int) + (d : Int)))) none) := Lib.hid (grown_set HGr.out (.inl (Nat.le_refl _)) _)
            go_wp2
            go_roundw
            case rel => exact ⟨j + 1, by omega, by go_num, HE.out, HGe.out⟩
            case measure => simp [intOf]; omega
          · have hb : ((m : Int) / 2 ^ j).tmod 2 = 0 := by rw [hb, show m / 2 ^ j % 2 = 0 by omega]; rfl
            have hb' : ((m : Int) / 2 ^ j) % 2 = 0 := by rw [shr_nat', show m / 2 ^ j % 2 = 0 by omega]; rfl
            have HSt := Lib.hid (Pt.rowV_stay (L := L) (u := u) hm (show j < 15 by omega) h1)
            clear hr h1
            go_wp2
            go_roundw
            case rel => exact ⟨j + 1, by omega, by go_num, by rw [HSt.out]; exact HR.out, HGr.out⟩
            case measure => simp [intOf]; omega
        · obtain rfl : j = k := by omega
          clear hr
          have HBy : Hid (Bytes wr (.slice (some ⟨wo.heap.size, 0, none⟩) L L) (Pt.flags m)) := Lib.hid (by
            have hlen : ((Pt.rowL u m j).take L).length = L := by rw [List.length_take]; simp [Pt.rowL]; omega
            have := Bytes.lit (w := wr) (g := wo.heap.size) (t := 5) (fr := (0, 0)) (l := (Pt.rowL u m j).take L) (by rw [HR.out]; rfl) (by rw [HEnd.out]; exact Pt.flags_lt m hm)
            rw [hlen, HEnd.out] at this
            exact this)
          go_wp2
          go_ret
          rw [← HWo.out]
          exact ⟨_, rfl, HBy.out, HGr.out⟩
end Go.Proofs.YtbneggdfbkebcaaDoor
