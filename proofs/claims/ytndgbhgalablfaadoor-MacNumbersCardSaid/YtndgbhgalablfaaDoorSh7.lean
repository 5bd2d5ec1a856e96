/- The walk of (*chain).digest. -/
import Derived.Test.YtndgbhgalablfaaDoorSh6
namespace Go.Proofs.YtndgbhgalablfaaDoor
open Go.RowKit

theorem bytesV_set (T : Nat) (d : List Nat) (x : Nat) (h : d.length < T) :
    (bytesV (d ++ List.replicate (T - d.length) 0)).setIfInBounds d.length (.int .u8 (x : Int)) = bytesV ((d ++ [x]) ++ List.replicate (T - (d ++ [x]).length) 0) := by
  obtain ⟨m, hm⟩ : ∃ m, T - d.length = m + 1 := ⟨T - d.length - 1, by omega⟩
  have e : T - (d ++ [x]).length = m := by simp; omega
  rw [e, hm]
  simp [bytesV, List.replicate_succ]
theorem bytesV_zero (T : Nat) (d : List Nat) (h : d.length < T) : (bytesV (d ++ List.replicate (T - d.length) 0))[d.length]? = some (.int .u8 0) := by
  obtain ⟨m, hm⟩ : ∃ m, T - d.length = m + 1 := ⟨T - d.length - 1, by omega⟩
  rw [hm]
  simp [bytesV, List.replicate_succ]

structure DigW (w wr : World) (d : List Nat) : Prop where
  grown : w.grownBy wr none
  size : wr.heap.size = w.heap.size + 2
  res : wr.heap[w.heap.size]? = some (.cells (bytesV (List.replicate 32 0)) 32 (0, 0))
  blk : wr.heap[w.heap.size + 1]? = some (.cells (bytesV (d ++ List.replicate (32 - d.length) 0)) 32 (0, 0))
theorem DigW.set {w wr : World} {d : List Nat} (h : DigW w wr d) (hd : d.length < 32) (x : Nat) : DigW w (wr.setCell ⟨w.heap.size + 1, d.length, none⟩ (.int .u8 (x : Int))) (d ++ [x]) :=
  ⟨grown_set h.grown (.inl (by show w.heap.size ≤ w.heap.size + 1; omega)) _, by rw [setCell_size]; exact h.size, by rw [Below.heap_setCell _ _ _ _ (by show w.heap.size ≠ w.heap.size + 1; omega)]; exact h.res,
    by rw [setCell_heap h.blk, bytesV_set 32 d x hd]⟩
theorem DigW.start (w : World) : DigW w ((w.alloc (.cells (bytesV (List.replicate 32 0)) 32)).alloc (.cells (bytesV (List.replicate 32 0)) 32)) [] :=
  ⟨grown_alloc (World.grownBy_alloc _ _ _) _, alloc2_size _ _ _, alloc2_old _ _ _, alloc2_new _ _ _⟩

theorem run_index_agg {P : Program} (w : World) (t e n : Nat) (cs : Array Value) (k : IntKind) (i : Nat) (v : Value) (hu : P.underlying t = some (.array n e)) (hagg : ∀ w, (isAgg e).run P w = .ok false w) (hsz : ∀ w, (sizeOf e).run P w = .ok 1 w)
    (hi : i < n) (hv : cs[i]? = some v) : (Instr.index t (.agg cs) (.int k (i : Int))).run P w = .ok v w := by
  simp [Instr.index, run_underlying hu, part, asIntOf, Sem.run_bind, hagg, hsz, hi, hv, Result.andThen]

theorem digB_out (x s : Nat) : IntKind.u8.wrap ((x : Int) / 2 ^ s) = ((x / 2 ^ s % 256 : Nat) : Int) := by
  rw [IntKind.wrap_u8']; simp

set_option maxRecDepth 100000 in
set_option maxHeartbeats 1000000 in
theorem digest_any (s : Sha.HS) (hs : s.ok) (b : Nat) (w : World) (hH : IsHash w b s) :
    Calls Tryd.prog 68 #[.pointer (some ⟨b, 0, none⟩)] w fun e w' => e = .returned (.agg (bytesV (Sha.dig s.words))) ∧ w.grownBy w' none := by
  have HH := Lib.hid hH
  have hbl := hH.lt
  have Hlt := Lib.hid (Sha.St.list_lt hs.words)
  have i49 : Hid ((Tryd.prog.info? 95).map (·.size) = some (stV s.words).toList.length) := Lib.hid (by kernel_rfl)
  have Hix : Hid (∀ k : Nat, k < 8 → ∀ W, (Instr.index 95 (.agg (stV s.words)) (.int .i64 (k : Int))).run Tryd.prog W = .ok (.int .u32 (s.words.list.getD k 0 : Nat)) W) := Lib.hid (fun k hk W => by
    refine run_index_agg W _ 94 8 _ _ k _ Tryd.underlying95 (fun _ => by kernel_rfl) (fun _ => by kernel_rfl) hk ?_
    rcases k with _ | _ | _ | _ | _ | _ | _ | _ | k <;> first | rfl | omega)
  clear hH hs
  go_enter Tryd.func68, Tryd.ntmps68
  go_wp2_with (refine wpList_load_mid (by rfl) 95 (.tmp 9) (by rfl) b 0 (by rfl) (stV s.words).toList _ (HH.out.grown (grown_alloc (World.grownBy_alloc _ _ none) _) (by simp)).words Tryd.underlying95 (by rfl) i49.out ?_)

  go_loopw [11] (fun i wr => ∃ k : Nat, k ≤ 8 ∧ i = .int .i64 k ∧ DigW w wr (Sha.digN s.words (4 * k))) (fun i _ => 8 - (intOf i).toNat)
  case atStart => exact ⟨0, Nat.zero_le _, rfl, DigW.start w⟩
  case round =>
    obtain ⟨k, hk, rfl, hD⟩ := hrel
    by_cases hlt : k < 8
    · obtain ⟨x, hx⟩ : ∃ x, x = s.words.list.getD k 0 := ⟨_, rfl⟩
      have hix := Hix.out k hlt
      rw [← hx] at hix
      have xlt : x < 4294967296 := by rw [hx]; exact Sha.getD_lt (by decide) Hlt.out _
      have Hx := Lib.hid hx
      have HD := Lib.hid hD
      clear hx hD
      go_wp2
      obtain ⟨wo, rfl⟩ : ∃ wo : World, wo = wr := ⟨_, rfl⟩
      go_loopw [15] (fun i wr => ∃ j : Nat, j ≤ 4 ∧ i = .int .i64 j ∧ DigW w wr (Sha.digN s.words (4 * k + j))) (fun i _ => 4 - (intOf i).toNat)
      case atStart => exact ⟨0, Nat.zero_le _, rfl, HD.out⟩
      case round =>
        obtain ⟨j, hj, rfl, hD⟩ := hrel
        by_cases hj4 : j < 4
        · have hl := Sha.digN_len s.words (4 * k + j)
          have c := cell_blk hD.blk (4 * k + j) (by have := bytesV_zero 32 (Sha.digN s.words (4 * k + j)) (by omega); rwa [hl] at this ⊢)
          have f := free_blk hD.blk (4 * k + j)
          have HB : Hid (Sha.digB s.words (4 * k + j) = x / 2 ^ (24 - 8 * j) % 256) := by
            show Sha.digB _ _ = _
            unfold Sha.digB
            rw [show (4 * k + j) / 4 = k by omega, show (4 * k + j) % 4 = j by omega, Hx.out]
          have HL := Lib.hid hl
          have HD2 := Lib.hid hD
          clear hl hD
          go_wp2
          go_roundw
          case rel =>
            refine ⟨j + 1, by omega, by go_num, ?_⟩
            have := HD2.out.set (by rw [HL.out]; omega) (Sha.digB s.words (4 * k + j))
            rw [HL.out] at this
            rw [show ((x : Int) / 2 ^ (24 - 8 * j) % 256) = ((Sha.digB s.words (4 * k + j) : Nat) : Int) by rw [HB.out]; simp]
            exact this
          case measure => simp [intOf]; omega
        · obtain rfl : j = 4 := by omega
          have HD2 := Lib.hid hD
          clear hD
          go_wp2
          go_roundw
          case rel => exact ⟨k + 1, by omega, by go_num, HD2.out⟩
          case measure => simp [intOf]; omega
    · obtain rfl : k = 8 := by omega
      obtain ⟨R, hR⟩ : ∃ R, R = bytesV (Sha.dig s.words) := ⟨_, rfl⟩
      have hz : R.size = 32 := by rw [hR, bytesV_size]; exact Sha.digN_len _ _
      have hoc : R.all (·.oneCell') = true := by rw [hR]; exact bytesV_one _
      have q5 := hD.blk
      rw [show Sha.digN s.words (4 * 8) ++ List.replicate (32 - (Sha.digN s.words (4 * 8)).length) 0 = Sha.dig s.words by rw [Sha.digN_len]; simp [Sha.dig], ← hR] at q5
      have Q4 := Lib.hid hD.res
      have Q5 := Lib.hid q5
      have HR := Lib.hid hR
      have HZ := Lib.hid hz
      have HO := Lib.hid hoc
      have HD2 := Lib.hid hD
      have HI : Hid ((Tryd.prog.info? 32).map (·.size) = some R.size) := by rw [hz]; exact Lib.hid (by kernel_rfl)
      clear hD q5 hR hz hoc
      go_wp2_with (first
        | (refine wpList_load_row (by rfl) 32 (.tmp 3) (by rfl) (w.heap.size + 1) (by rfl) _ R (0, 0) _ Q5.out Tryd.underlying32 (by rfl) HI.out ?_)
        | (refine wpList_store_row (by rfl) 32 (.tmp 2) (.tmp 31) (by rfl) w.heap.size R (by rfl) (by rfl) _ _ Q4.out HI.out (by rw [HZ.out, bytesV_size]; rfl) HO.out ?_))
      refine bodyPost_ret (v := .agg R) ?_ rfl ⟨by rw [HR.out], grown_setRow HD2.out.grown (by omega) _⟩
      have HQ := setRow_heap _ _ _ R _ _ Q4.out
      exact results_cell_row Tryd.results68 _ _ w.heap.size _ R (0, 0) _ rfl HQ Tryd.underlying32 rfl HI.out
end Go.Proofs.YtndgbhgalablfaaDoor
