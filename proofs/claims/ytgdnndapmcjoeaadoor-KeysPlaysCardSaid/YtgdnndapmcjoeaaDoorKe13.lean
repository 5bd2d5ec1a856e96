import Derived.Test.YtgdnndapmcjoeaaDoorKe00
import Derived.Test.YtgdnndapmcjoeaaDoorKe12
namespace Go.Proofs.YtgdnndapmcjoeaaDoor
open Go.RowKit
theorem bytesV_set (T : Nat) (d : List Nat) (x : Nat) (h : d.length < T) :
    (bytesV (d ++ List.replicate (T - d.length) 0)).setIfInBounds d.length (.int .u8 (x : Int)) = bytesV ((d ++ [x]) ++ List.replicate (T - (d ++ [x]).length) 0) := by
  obtain ⟨m, hm⟩ : ∃ m, T - d.length = m + 1 := ⟨T - d.length - 1, by omega⟩
  have e : T - (d ++ [x]).length = m := by simp; omega
  rw [e, hm]
  simp [bytesV, List.replicate_succ]
theorem bytesV_zero (T : Nat) (d : List Nat) (h : d.length < T) : (bytesV (d ++ List.replicate (T - d.length) 0))[d.length]? = some (.int .u8 0) := by
  obtain ⟨m, hm⟩ : ∃ m, T - d.length = m + 1 := ⟨T - d.length - 1, by omega⟩
  rw [hm]
  simp [bytesV, List.replicate_succ]
structure DigW (w wr : World) (d : List Nat) : Prop where
  grown : w.grownBy wr none
  size : wr.heap.size = w.heap.size + 2
  res : wr.heap[w.heap.size]? = some (.cells (bytesV (List.replicate 32 0)) 64 (0, 0))
  blk : wr.heap[w.heap.size + 1]? = some (.cells (bytesV (d ++ List.replicate (32 - d.length) 0)) 64 (0, 0))
theorem DigW.set {w wr : World} {d : List Nat} (h : DigW w wr d) (hd : d.length < 32) (x : Nat) : DigW w (wr.setCell ⟨w.heap.size + 1, d.length, none⟩ (.int .u8 (x : Int))) (d ++ [x]) :=
  ⟨grown_set h.grown (.inl (by show w.heap.size ≤ w.heap.size + 1; omega)) _, by rw [setCell_size]; exact h.size, by rw [Below.heap_setCell _ _ _ _ (by show w.heap.size ≠ w.heap.size + 1; omega)]; exact h.res,
    by rw [setCell_heap h.blk, bytesV_set 32 d x hd]⟩
theorem DigW.start (w : World) : DigW w ((w.alloc (.cells (bytesV (List.replicate 32 0)) 64)).alloc (.cells (bytesV (List.replicate 32 0)) 64)) [] :=
  ⟨grown_alloc (World.grownBy_alloc _ _ _) _, alloc2_size _ _ _, alloc2_old _ _ _, alloc2_new _ _ _⟩
theorem run_index_agg {P : Program} (w : World) (t e n : Nat) (cs : Array Value) (k : IntKind) (i : Nat) (v : Value) (hu : P.underlying t = some (.array n e)) (hagg : ∀ w, (isAgg e).run P w = .ok false w) (hsz : ∀ w, (sizeOf e).run P w = .ok 1 w)
    (hi : i < n) (hv : cs[i]? = some v) : (Instr.index t (.agg cs) (.int k (i : Int))).run P w = .ok v w := by
  simp [Instr.index, run_underlying hu, part, asIntOf, Sem.run_bind, hagg, hsz, hi, hv, Result.andThen]
set_option maxRecDepth 100000 in
set_option maxHeartbeats 1000000 in
theorem digest_any (s : Sha.HS) (hs : s.ok) (b : Nat) (w : World) (hH : IsHash w b s) :
    Calls Tryd.prog 70 #[.pointer (some ⟨b, 0, none⟩)] w fun e w' => e = .returned (.agg (bytesV (Sha.dig s.words))) ∧ w.grownBy w' none := by
  have HH := Lib.hid hH
  have hbl := hH.lt
  have Hlt := Lib.hid (Sha.St.list_lt hs.words)
  have i49 : Hid ((Tryd.prog.info? 136).map (·.size) = some (stV s.words).toList.length) := Lib.hid (by kernel_rfl)
  have Hix : Hid (∀ k : Nat, k < 8 → ∀ W, (Instr.index 136 (.agg (stV s.words)) (.int .i64 (k : Int))).run Tryd.prog W = .ok (.int .u32 (s.words.list.getD k 0 : Nat)) W) := Lib.hid (fun k hk W => by
    refine run_index_agg W _ 135 8 _ _ k _ Tryd.underlying136 (fun _ => by kernel_rfl) (fun _ => by kernel_rfl) hk ?_
    rcases k with _ | _ | _ | _ | _ | _ | _ | _ | k <;> first | rfl | omega)
  clear hH hs
  go_enter Tryd.func70, Tryd.ntmps70
  go_wp2_with (refine wpList_load_mid (by rfl) 136 (.tmp 9) (by rfl) b 0 (by rfl) (stV s.words).toList _ (HH.out.grown (grown_alloc (World.grownBy_alloc _ _ none) _) (by simp)).words Tryd.underlying136 (by rfl) i49.out ?_)

  go_loopw [11] (fun i wr => ∃ k : Nat, k ≤ 8 ∧ i = .int .i64 k ∧ DigW w wr (Sha.digN s.words (4 * k))) (fun i _ => 8 - (intOf i).toNat)
  case atStart => exact ⟨0, Nat.zero_le _, rfl, DigW.start w⟩
  case round =>
    obtain ⟨k, hk, rfl, hD⟩ := hrel
    by_cases hlt : k < 8
    · obtain ⟨x, hx⟩ : ∃ x, x = s.words.list.getD k 0 := ⟨_, rfl⟩
      have hix := Hix.out k hlt
      rw [← hx] at hix
      have xlt : x < 4294967296 := by rw [hx]; exact Sha.getD_lt (by decide) Hlt.out _
      have Hx := Lib.hid hx
      have HD := Lib.hid hD
      clear hx hD
      go_wp2
      obtain ⟨wo, rfl⟩ : ∃ wo : World, wo = wr := ⟨_, rfl⟩
      go_loopw [15] (fun i wr => ∃ j : Nat, j ≤ 4 ∧ i = .int .i64 j ∧ DigW w wr (Sha.digN s.words (4 * k + j))) (fun i _ => 4 - (intOf i).toNat)
      case atStart => exact ⟨0, Nat.zero_le _, rfl, HD.out⟩
      case round =>
        obtain ⟨j, hj, rfl, hD⟩ := hrel
        by_cases hj4 : j < 4
        · have hl := Sha.digN_len s.words (4 * k + j)
          have c := cell_blk hD.blk (4 * k + j) (by have := bytesV_zero 32 (Sha.digN s.words (4 * k + j)) (by omega); rwa [hl] at this ⊢)
          have f := free_blk hD.blk (4 * k + j)
          have HB : Hid (Sha.digB s.words (4 * k + j) = x / 2 ^ (24 - 8 * j) % 256) := by
            show Sha.digB _ _ = _
            unfold Sha.digB
            rw [show (4 * k + j) / 4 = k by omega, show (4 * k + j) % 4 = j by omega, Hx.out]
          have HL := Lib.hid hl
          have HD2 := Lib.hid hD
          clear hl hD
          go_wp2
          go_roundw
          case rel =>
            refine ⟨j + 1, by omega, by go_num, ?_⟩
            have := HD2.out.set (by rw [HL.out]; omega) (Sha.digB s.words (4 * k + j))
            rw [HL.out] at this
            rw [show ((x : Int) / 2 ^ (24 - 8 * j) % 256) = ((Sha.digB s.words (4 * k + j) : Nat) : Int) by rw [HB.out]; simp]
            exact this
          case measure => simp [intOf]; omega
        · obtain rfl : j = 4 := by omega
          have HD2 := Lib.hid hD
          clear hD
          go_wp2
          go_roundw
          case rel => exact ⟨k + 1, by omega, by go_num, HD2.out⟩
          case measure => simp [intOf]; omega
    · obtain rfl : k = 8 := by omega
      obtain ⟨R, hR⟩ : ∃ R, R = bytesV (Sha.dig s.words) := ⟨_, rfl⟩
      have hz : R.size = 32 := by rw [hR, bytesV_size]; exact Sha.digN_len _ _
      have hoc : R.all (·.oneCell') = true := by rw [hR]; exact bytesV_one _
      have q5 := hD.blk
      rw [show Sha.digN s.words (4 * 8) ++ List.replicate (32 - (Sha.digN s.words (4 * 8)).length) 0 = Sha.dig s.words by rw [Sha.digN_len]; simp [Sha.dig], ← hR] at q5
      have Q4 := Lib.hid hD.res
      have Q5 := Lib.hid q5
      have HR := Lib.hid hR
      have HZ := Lib.hid hz
      have HO := Lib.hid hoc
      have HD2 := Lib.hid hD
      have HI : Hid ((Tryd.prog.info? 64).map (·.size) = some R.size) := by rw [hz]; exact Lib.hid (by kernel_rfl)
      clear hD q5 hR hz hoc
      go_wp2_with (first
        | (refine wpList_load_row (by rfl) 64 (.tmp 3) (by rfl) (w.heap.size + 1) (by rfl) _ R (0, 0) _ Q5.out Tryd.underlying64 (by rfl) HI.out ?_)
        | (refine wpList_store_row (by rfl) 64 (.tmp 2) (.tmp 31) (by rfl) w.heap.size R (by rfl) (by rfl) _ _ Q4.out HI.out (by rw [HZ.out, bytesV_size]; rfl) HO.out ?_))
      refine bodyPost_ret (v := .agg R) ?_ rfl ⟨by rw [HR.out], grown_setRow HD2.out.grown (by omega) _⟩
      have HQ := setRow_heap _ _ _ R _ _ Q4.out
      exact results_cell_row Tryd.results70 _ _ w.heap.size _ R (0, 0) _ rfl HQ Tryd.underlying64 rfl HI.out
end Go.Proofs.YtgdnndapmcjoeaaDoor
namespace Go.Proofs.YtgdnndapmcjoeaaDoor
open Go.RowKit
set_option maxHeartbeats 1000000 in
theorem len_any (s : Sha.HS) (M : List Nat) (hR : Sha.Rep s M) (hM : M.length < 1152921504606846976) (b : Nat) (w : World) (hH : IsHash w b s) :
    Calls Tryd.prog 73 #[.pointer (some ⟨b, 0, none⟩)] w fun e w' => e = .returned (.int .i64 (M.length : Int)) ∧ ∃ n, w' = w.drewN n := by
  have c8 := hH.blocks
  have c73 := hH.filled hR.ok
  have h1 : s.blocks < 18014398509481984 := by have := hR.len; omega
  have h2 := hR.filled
  have HL := Lib.hid hR.len
  clear hH hR hM
  go_enter Tryd.func73, Tryd.ntmps73
  go_wp2
  go_quiet (fail)
  go_wp2
  go_ret
  refine ⟨ret_int ?_, _, rfl⟩
  rw [HL.out]
  omega
theorem slice64h (a : Addr) (h : Nat) (hh : h ≤ 72) (H : Int) (hH : H = h) (W : World) :
    (Instr.sliceAt 150 (.pointer (some a)) none (some (.int .i64 H)) none).run Tryd.prog W = .ok (.slice (some a) h 72) W := by
  have e : Tryd.prog.arrayLen 150 = 72 := by kernel_rfl
  have z : ∀ W, (sizeOf (Tryd.prog.elem 150)).run Tryd.prog W = .ok 1 W := fun W => by kernel_rfl
  rw [run_sliceAt_array_h W 150 a (by kernel_rfl) .i64 H (by omega) (by rw [e]; omega), z]
  subst hH
  simp [slicedAt, e, Result.andThen, Addr.add]
structure PadW (w wr : World) (d : List Nat) : Prop where
  grown : w.grownBy wr none
  size : wr.heap.size = w.heap.size + 1
  blk : wr.heap[w.heap.size]? = some (.cells (bytesV (d ++ List.replicate (72 - d.length) 0)) 150 (0, 0))
theorem PadW.set {w wr : World} {d : List Nat} (h : PadW w wr d) (hd : d.length < 72) (x : Nat) : PadW w (wr.setCell ⟨w.heap.size, d.length, none⟩ (.int .u8 (x : Int))) (d ++ [x]) :=
  ⟨grown_set h.grown (.inl (by show w.heap.size ≤ w.heap.size; omega)) _, by rw [setCell_size]; exact h.size, by rw [setCell_heap h.blk, bytesV_set 72 d x hd]⟩
theorem PadW.zeros {w wr : World} {d : List Nat} (h : PadW w wr d) (n : Nat) (hn : d.length + n ≤ 72) : PadW w wr (d ++ List.replicate n 0) :=
  ⟨h.grown, h.size, by
    have := h.blk
    rw [List.append_assoc, List.length_append, List.length_replicate, List.replicate_append_replicate, show n + (72 - (d.length + n)) = 72 - d.length by omega]
    exact this⟩
def zeros72 : Array Value := bytesV (List.replicate 72 0)
theorem PadW.start {w wr : World} {n : Nat} (h : wr = w.drewN n) : PadW w (wr.alloc (.cells zeros72 150)) [] := by
  subst h
  exact ⟨grown_alloc (grown_drewN (grown_refl _ _) _) _, alloc_size _ _, alloc_at _ _⟩
set_option maxRecDepth 100000 in
set_option maxHeartbeats 1000000 in
theorem pad_any (s : Sha.HS) (M : List Nat) (hR : Sha.Rep s M) (hM : M.length < 1152921504606846000) (b : Nat) (hb2 : 29 < b) (w : World) (hH : IsHash w b s) (hL : Laid w) :
    Calls Tryd.prog 69 #[.pointer (some ⟨b, 0, none⟩)] w fun e w' =>
      e = .returned (.tuple #[]) ∧ w.grownBy w' (some b) ∧ ∃ s', IsHash w' b s' ∧ Sha.Rep s' (M ++ Sha.pad M.length) := by
  have HH := Lib.hid hH
  have HR := Lib.hid hR
  have HL := Lib.hid hL
  have hbl := hH.lt
  have c73 := hH.filled hR.ok
  have hf := hR.filled
  have hlen : s.filled = M.length % 64 := by have := hR.len; omega
  have HLen := Lib.hid hlen
  obtain ⟨N, hN⟩ : ∃ N, N = M.length := ⟨_, rfl⟩
  have hl := len_any s M hR (by omega) b w hH
  rw [← hN] at hl hM
  have Hl := Lib.hid hl
  have HN := Lib.hid hN
  clear hH hR hL hlen hl hN
  obtain ⟨z, hz⟩ : ∃ z, z = Sha.nz N := ⟨_, rfl⟩
  have hz1 : (119 - (s.filled : Int)) % 64 = (z : Int) := by rw [hz, HLen.out, ← HN.out]; unfold Sha.nz; omega
  have hz2 : z < 64 := by rw [hz]; exact Sha.nz_le _
  obtain ⟨v, hv⟩ : ∃ v, v = 8 * N := ⟨_, rfl⟩
  have hv1 : (N : Int) * 8 = (v : Int) := by omega
  have hv2 : v < 9223372036854775807 := by omega
  have hz64 : ∀ w, (zeroValue 150).run Tryd.prog w = .ok (.agg zeros72) w := fun _ => by kernel_rfl
  have HZ := Lib.hid hz
  have HV := Lib.hid hv
  clear hz hv
  go_enter Tryd.func69, Tryd.ntmps69
  go_wp2_with (first
    | (go_at_call 73; refine Hl.out.mono ?_; rintro e w' ⟨rfl, nq, rfl⟩; have P0 := PadW.start (w := w) (n := nq) rfl; have c0 := cell_blk P0.blk 0 (bytesV_zero 72 [] (by decide)); have f0 := free_blk P0.blk 0; have HP0 := Lib.hid P0; clear P0))
  simp only [hz1]
  clear hz1 c73 hf
  have P1 := (HP0.out.set (by decide) 128).zeros z (by simp; omega)
  have HP1 := Lib.hid P1
  clear P1 c0 f0
  go_loopw [18] (fun i wr => ∃ k : Nat, k ≤ 8 ∧ i = .int .i64 k ∧ PadW w wr ((128 :: List.replicate z 0) ++ Sha.be8N v k)) (fun i _ => 8 - (intOf i).toNat)
  case atStart => exact ⟨0, Nat.zero_le _, rfl, by rw [Sha.be8N, List.append_nil]; exact HP1.out⟩
  case round =>
    obtain ⟨k, hk, rfl, hP⟩ := hrel
    have hl : ((128 :: List.replicate z 0) ++ Sha.be8N v k).length = 1 + z + k := by simp [Sha.be8N_len]; omega
    by_cases hlt : k < 8
    · have c := cell_blk hP.blk (1 + z + k) (by have := bytesV_zero 72 ((128 :: List.replicate z 0) ++ Sha.be8N v k) (by omega); rwa [hl] at this ⊢)
      have f := free_blk hP.blk (1 + z + k)
      have HL := Lib.hid hl
      have HP := Lib.hid hP
      clear hl hP
      go_wp2
      go_roundw
      case rel =>
        refine ⟨k + 1, by omega, by go_num, ?_⟩
        have := HP.out.set (by rw [HL.out]; omega) (v / 2 ^ (56 - 8 * k) % 256)
        rw [HL.out, List.append_assoc] at this
        rw [show ((v : Int) / 2 ^ (56 - 8 * k) % 256) = ((v / 2 ^ (56 - 8 * k) % 256 : Nat) : Int) by simp]
        exact this
      case measure => simp [intOf]; omega
    · obtain rfl : k = 8 := by omega
      have hpl : (Sha.pad N).length = 9 + z := by rw [Sha.pad_len, HZ.out]
      have hpd : (128 :: List.replicate z 0) ++ Sha.be8N v 8 = Sha.pad N := by rw [HV.out, HZ.out]; rfl
      have hsl : ∀ W, (Instr.sliceAt 150 (.pointer (some ⟨w.heap.size, 0, none⟩)) none (some (.int .i64 (1 + (z : Int) + 8))) none).run Tryd.prog W = .ok (.slice (some ⟨w.heap.size, 0, none⟩) (9 + z) 72) W := fun W =>
        slice64h _ (9 + z) (by omega) _ (by omega) W
      rw [hpd] at hP
      have hg := hP.grown
      have hW := write_core s M HR.out b hb2 wr (HH.out.grown hg (by simp)) (HL.out.grown hg (by simp) (by simp)) (Sha.pad N) (Sha.pad_lt N) (by rw [hpl, ← HN.out]; omega) (some ⟨w.heap.size, 0, none⟩) w.heap.size 0 (9 + z) 72 hpl (by omega)
        (fun _ => ⟨rfl, by rw [hP.size]; omega, by omega⟩) (fun j hj => cell_blk hP.blk (0 + j) (by
          rw [Nat.zero_add, bytesV_at _ _ (by simp; omega)]
          simp [List.getElem?_append_left (show j < (Sha.pad N).length by omega)])) (by omega)
      have HW := Lib.hid hW
      have HG := Lib.hid hg
      clear hl hpl hpd hP hg hW
      go_wp2_with (go_at_call 57; refine HW.out.mono ?_; rintro e w2 ⟨rfl, hg2, hr2⟩; have HG2 := Lib.hid hg2; have HR2 := Lib.hid hr2; clear hg2 hr2)
      go_end0
      refine ⟨rfl, grown_trans (grown_any HG.out) HG2.out, ?_⟩
      have := HR2.out
      rw [HN.out] at this
      exact this
end Go.Proofs.YtgdnndapmcjoeaaDoor
namespace Go.Proofs.YtgdnndapmcjoeaaDoor
open Go.RowKit
def zeroHash : Array Value := (hsL ⟨⟨0, 0, 0, 0, 0, 0, 0, 0⟩, 0, List.replicate 64 0, 0⟩).toArray
theorem hsL_one (s : Sha.HS) : (hsL s).toArray.all (·.oneCell') = true := by
  simp [hsL, stV, bytesV, Value.oneCell']
theorem hsL_size {s : Sha.HS} (h : s.ok) : (hsL s).toArray.size = 74 := by simpa using hsL_len h
theorem zeroHash_at (_w : World) : ∀ w, (zeroValue 142).run Tryd.prog w = .ok (.agg zeroHash) w := fun _ => by kernel_rfl
set_option maxRecDepth 100000 in
set_option maxHeartbeats 1000000 in
theorem new_any (w : World) :
    Calls Tryd.prog 56 #[] w fun e w' => e = .returned (.pointer (some ⟨w.heap.size, 0, none⟩)) ∧ w' = w.alloc (.cells zeroHash 142) := by
  have hz := zeroHash_at w
  go_enter Tryd.func56, Tryd.ntmps56
  go_wp2
  go_ret
  exact ⟨rfl, rfl⟩
def zeros32 : Array Value := bytesV (List.replicate 32 0)
theorem zeros32_at (_w : World) : ∀ w, (zeroValue 64).run Tryd.prog w = .ok (.agg zeros32) w := fun _ => by kernel_rfl
set_option maxRecDepth 100000 in
set_option maxHeartbeats 1000000 in
theorem hsum_any (s : Sha.HS) (M : List Nat) (hR : Sha.Rep s M) (hM : M.length < 1152921504606846000) (b : Nat) (_hb2 : 29 < b) (w : World) (hH : IsHash w b s) (hL : Laid w) :
    Calls Tryd.prog 59 #[.pointer (some ⟨b, 0, none⟩)] w fun e w' => e = .returned (.agg (bytesV (Sha.sum M))) ∧ w.grownBy w' none := by
  have hz := zeroHash_at w
  have hz2 := zeros32_at w
  have hs := hR.ok
  have hbl := hH.lt
  have g1 : w.grownBy (w.alloc (.cells zeros32 64)) none := World.grownBy_alloc _ _ _
  have hH1 : IsHash (w.alloc (.cells zeros32 64)) b s := hH.grown g1 (by simp)
  have HH := Lib.hid hH1
  have HI : Hid ((Tryd.prog.info? 142).map (·.size) = some (hsL s).toArray.size) := by rw [hsL_size hs]; exact Lib.hid (by kernel_rfl)
  have HI2 : Hid (zeroHash.size = (hsL s).toArray.size) := by rw [hsL_size hs]; exact Lib.hid (by kernel_rfl)
  have HI3 : Hid ((Tryd.prog.info? 64).map (·.size) = some (bytesV (Sha.sum M)).size) := by rw [bytesV_size, Sha.sum_len]; exact Lib.hid (by kernel_rfl)
  have HI4 : Hid (zeros32.size = (bytesV (Sha.sum M)).size) := by rw [bytesV_size, Sha.sum_len]; exact Lib.hid (by kernel_rfl)
  have hz0 := alloc2_new w (.cells zeros32 64) (.cells zeroHash 142)
  have HZ := Lib.hid hz0
  obtain ⟨W, hW⟩ : ∃ W, W = ((w.alloc (.cells zeros32 64)).alloc (.cells zeroHash 142)).setRow (w.heap.size + 1) (hsL s).toArray := ⟨_, rfl⟩
  have gW : w.grownBy W none := by rw [hW]; exact grown_setRow (grown_alloc g1 _) (by omega) _
  have hHW : IsHash W (w.heap.size + 1) s := by rw [hW]; exact setRow_heap _ _ _ _ _ _ hz0
  have hBW : W.heap[w.heap.size]? = some (.cells zeros32 64 (0, 0)) := by rw [hW, setRow_other _ _ _ _ (by omega)]; exact alloc2_old _ _ _
  have hP := pad_any s M hR hM (w.heap.size + 1) (by have := hL.size; omega) W hHW (hL.grown gW (by simp) (by simp))
  have HP := Lib.hid hP
  have GW := Lib.hid gW
  have HBW := Lib.hid hBW
  have HW := Lib.hid hW
  clear hR hH hL hs hH1 g1 hz0 gW hHW hBW hP hW
  go_enter Tryd.func59, Tryd.ntmps59
  go_wp2_with (first
    | (refine wpList_load_row (by rfl) 142 (.tmp 5) (by rfl) b (by rfl) _ (hsL s).toArray (0, 0) _ HH.out Tryd.underlying142 (by rfl) HI.out ?_)
    | (refine wpList_store_row (by rfl) 142 (.tmp 3) (.tmp 6) (by rfl) (w.heap.size + 1) (hsL s).toArray (by rfl) (by rfl) _ _ HZ.out HI.out HI2.out (hsL_one s) ?_; rw [← HW.out])
    | (go_at_call 69; refine HP.out.mono ?_; rintro e w2 ⟨rfl, hg2, s', hH2, hR2⟩; have G2 := Lib.hid hg2; have H2 := Lib.hid hH2; have R2 := Lib.hid hR2; clear hg2 hH2 hR2)
    | (go_at_call 70; refine (digest_any s' R2.out.ok (w.heap.size + 1) w2 H2.out).mono ?_; rintro e w3 ⟨rfl, hg3⟩; rw [R2.out.sum]; have G3 := Lib.hid hg3; clear hg3)
    | (refine wpList_store_row (by rfl) 64 (.tmp 2) (.tmp 9) (by rfl) w.heap.size (bytesV (Sha.sum M)) (by rfl) (by rfl) _ _ ((G3.out.block _ (by have := G2.out.size; have := blk_lt HBW.out; omega) (by simp)).trans ((G2.out.block _ (blk_lt HBW.out) (by simp)).trans HBW.out)) HI3.out HI4.out (bytesV_one _) ?_))
  have g3 := grown_trans (grown_forget GW.out (Nat.le_succ _) G2.out) G3.out
  refine bodyPost_ret (v := .agg (bytesV (Sha.sum M))) ?_ rfl ⟨rfl, grown_setRow g3 (Nat.le_refl _) _⟩
  have hB3 := (G3.out.block _ (by have := G2.out.size; have := blk_lt HBW.out; omega) (by simp)).trans ((G2.out.block _ (blk_lt HBW.out) (by simp)).trans HBW.out)
  have HQ := setRow_heap _ _ _ (bytesV (Sha.sum M)) _ _ hB3
  exact results_cell_row Tryd.results59 _ _ w.heap.size _ _ (0, 0) _ rfl HQ Tryd.underlying64 rfl HI3.out
/-- Slices of bytes in a slice: the value of each part. -/
def PartsAt (w : World) (sb so : Nat) (parts : List (List Nat)) : Prop :=
  ∀ i, i < parts.length → ∃ v, w.cell? ⟨sb, so + i, none⟩ = some v ∧ Bytes w v (parts.getD i [])
end Go.Proofs.YtgdnndapmcjoeaaDoor
namespace Go.Proofs.YtgdnndapmcjoeaaDoor
open Go.RowKit
theorem flatten_take (parts : List (List Nat)) (k : Nat) (hk : k < parts.length) : (parts.take (k + 1)).flatten = (parts.take k).flatten ++ parts.getD k [] := by
  rw [List.take_add_one, List.flatten_append, List.getElem?_eq_getElem hk]
  simp [List.getElem?_eq_getElem hk]
theorem flatten_len (parts : List (List Nat)) : ∀ k, ((parts.take k).flatten).length ≤ parts.flatten.length := fun k => by
  have : parts.flatten = (parts.take k).flatten ++ (parts.drop k).flatten := by rw [← List.flatten_append, List.take_append_drop]
  rw [this, List.length_append]; omega
/-- Any writer, from whatever world the parts are still there. -/
theorem write_bytes (s : Sha.HS) (M : List Nat) (hR : Sha.Rep s M) (b : Nat) (hb2 : 29 < b) (w0 w : World) (hg : w0.grownBy w none) (hb : w0.heap.size ≤ b) (hH : IsHash w b s) (hL : Laid w) (v : Value) (l : List Nat) (hB : Bytes w0 v l) (hM : M.length + l.length < 1152921504606846976) :
    Calls Tryd.prog 57 #[.pointer (some ⟨b, 0, none⟩), v] w fun e w' =>
      e = .returned (.tuple #[]) ∧ w.grownBy w' (some b) ∧ ∃ s', IsHash w' b s' ∧ Sha.Rep s' (M ++ l) := by
  obtain ⟨h1, a, sb, so, c, rfl, h3, h4, h5⟩ := hB
  exact write_core s M hR b hb2 w hH hL l h1 hM a sb so l.length c rfl h3 (fun h => ⟨(h4 h).1, Nat.lt_of_lt_of_le (h4 h).2 hg.size, by have := (h4 h).2; omega⟩)
    (fun j hj => by rw [World.cell?_of_block (hg.block sb (h4 (by omega)).2 (by simp))]; exact h5 j hj) (by omega)
set_option maxRecDepth 100000 in
set_option maxHeartbeats 1000000 in
theorem psum_any (parts : List (List Nat)) (a : Option Addr) (sb so n c : Nat) (hn : parts.length = n) (w : World) (ha : 0 < n → a = some ⟨sb, so, none⟩ ∧ sb < w.heap.size) (hP : PartsAt w sb so parts)
    (hM : parts.flatten.length < 1152921504606846000) (hnn : n < 1152921504606846000) (hL : Laid w) :
    Calls Tryd.prog 60 #[.slice a n c] w fun e w' => e = .returned (.agg (bytesV (Sha.sum parts.flatten))) ∧ w.grownBy w' none := by
  have hz2 := zeros32_at w
  have HI3 : Hid ((Tryd.prog.info? 64).map (·.size) = some (bytesV (Sha.sum parts.flatten)).size) := by rw [bytesV_size, Sha.sum_len]; exact Lib.hid (by kernel_rfl)
  have HI4 : Hid (zeros32.size = (bytesV (Sha.sum parts.flatten)).size) := by rw [bytesV_size, Sha.sum_len]; exact Lib.hid (by kernel_rfl)
  have hnew := new_any (w.alloc (.cells zeros32 64))
  rw [alloc_size] at hnew
  have HN := Lib.hid hnew
  have HL := Lib.hid hL
  have HP := Lib.hid hP
  have Ha := Lib.hid ha
  have Hn := Lib.hid hn
  have HM := Lib.hid hM
  have hsz := hL.size
  clear hL hP ha hn hM hnew
  go_enter Tryd.func60, Tryd.ntmps60
  go_wp2_with (go_at_call 56; refine HN.out.mono ?_; rintro e w1 ⟨rfl, hw1⟩; have HW1 := Lib.hid hw1; clear hw1)
  have hw1 := HW1.out
  have g1 : w.grownBy w1 none := by rw [hw1]; exact grown_alloc (World.grownBy_alloc _ _ _) _
  have h1 : IsHash w1 (w.heap.size + 1) ⟨⟨0, 0, 0, 0, 0, 0, 0, 0⟩, 0, List.replicate 64 0, 0⟩ := by rw [hw1]; exact alloc2_new _ _ _
  have b1 : w1.heap[w.heap.size]? = some (.cells zeros32 64 (0, 0)) := by rw [hw1]; exact alloc2_old _ _ _
  have G1 := Lib.hid g1
  have H1 := Lib.hid h1
  have B1 := Lib.hid b1
  clear hw1 g1 h1 b1
  go_loopw [9] (fun i wr => ∃ (k : Nat) (s : Sha.HS), k ≤ n ∧ i = .int .i64 k ∧ w.grownBy wr none ∧ IsHash wr (w.heap.size + 1) s ∧ Sha.Rep s (parts.take k).flatten ∧ wr.heap[w.heap.size]? = some (.cells zeros32 64 (0, 0))) (fun i _ => n - (intOf i).toNat)
  case atStart => exact ⟨0, _, Nat.zero_le _, rfl, G1.out, H1.out, by simpa using Sha.rep_new, B1.out⟩
  case round =>
    obtain ⟨k, s, hk, rfl, hg, hH, hR, hB⟩ := hrel
    have hfl : (parts.take k).flatten.length < 1152921504606846000 := Nat.lt_of_le_of_lt (flatten_len parts k) HM.out
    by_cases hkn : k < n
    · obtain ⟨ha1, ha2⟩ := Ha.out (by omega)
      subst ha1
      obtain ⟨v, hv, hBy⟩ := HP.out k (by rw [Hn.out]; exact hkn)
      have hc : wr.cell? ⟨sb, so + k, none⟩ = some v := by rw [World.cell?_of_block (hg.block sb ha2 (by simp))]; exact hv
      have hft := flatten_take parts k (by rw [Hn.out]; exact hkn)
      have hW := write_bytes s _ hR (w.heap.size + 1) (by omega) w wr hg (by omega) hH (HL.out.grown hg (by simp) (by simp)) v _ hBy (by
        have := flatten_len parts (k + 1)
        rw [hft, List.length_append] at this
        have := HM.out
        omega)
      rw [← hft] at hW
      have HWr := Lib.hid hW
      have HG := Lib.hid hg
      have HB := Lib.hid hB
      clear hg hH hR hB hfl ha2 hv hBy hft hW
      go_wp2_with (go_at_call 57; refine HWr.out.mono ?_; rintro e w2 ⟨rfl, hg2, s2, hH2, hR2⟩; have HG2 := Lib.hid hg2; have HH2 := Lib.hid hH2; have HR2 := Lib.hid hR2; clear hg2 hH2 hR2)
      go_roundw
      case rel => exact ⟨k + 1, s2, by omega, by go_num, grown_forget HG.out (Nat.le_succ _) HG2.out, HH2.out, HR2.out, (HG2.out.block _ (blk_lt HB.out) (by simp)).trans HB.out⟩
      case measure => simp [intOf]; omega
    · obtain rfl : k = n := by omega
      rw [List.take_of_length_le (by rw [Hn.out]; omega)] at hR hfl
      have hS := hsum_any s _ hR hfl (w.heap.size + 1) (by omega) wr hH (HL.out.grown hg (by simp) (by simp))
      have HS := Lib.hid hS
      have HG := Lib.hid hg
      have HB := Lib.hid hB
      clear hg hH hR hB hfl hS
      go_wp2_with (first
        | (go_at_call 59; refine HS.out.mono ?_; rintro e w2 ⟨rfl, hg2⟩; have HG2 := Lib.hid hg2; clear hg2)
        | (refine wpList_store_row (by rfl) 64 (.tmp 2) (.tmp 18) (by rfl) w.heap.size (bytesV (Sha.sum parts.flatten)) (by rfl) (by rfl) _ _ ((HG2.out.block _ (blk_lt HB.out) (by simp)).trans HB.out) HI3.out HI4.out (bytesV_one _) ?_))
      refine bodyPost_ret (v := .agg (bytesV (Sha.sum parts.flatten))) ?_ rfl ⟨rfl, grown_setRow (grown_trans HG.out HG2.out) (Nat.le_refl _) _⟩
      have HQ := setRow_heap _ _ _ (bytesV (Sha.sum parts.flatten)) _ _ ((HG2.out.block _ (blk_lt HB.out) (by simp)).trans HB.out)
      exact results_cell_row Tryd.results60 _ _ w.heap.size _ _ (0, 0) _ rfl HQ Tryd.underlying64 rfl HI3.out
end Go.Proofs.YtgdnndapmcjoeaaDoor
namespace Go.Proofs.YtgdnndapmcjoeaaDoor
open Go.RowKit
theorem freeze_alloc (w : World) (cs : Array Value) (T n : Nat) : (w.alloc (.cells cs T)).freeze ⟨w.heap.size, n, none⟩ 1 = w.alloc (.cells cs T (n, n + 1)) := by
  simp only [World.freeze, World.alloc, if_neg (show ¬ (1 = 0) by decide)]
  congr 1
  apply Array.ext_getElem?
  intro i
  rw [Array.getElem?_modify]
  by_cases h : w.heap.size = i
  · subst h
    simp
  · have h' : ¬ i = w.heap.size := fun e => h e.symm
    simp [h, h', Array.getElem?_push]
theorem conv25 (n : Nat) (w : World) (cs : Array Value) (hcs : cs.size = n) : (convert 22 22 (.slice (some ⟨w.heap.size, 0, none⟩) n n)).run Tryd.prog (w.alloc (.cells cs 5)) =
    .ok (.slice (some ⟨w.heap.size, 0, none⟩) n n) (w.alloc (.cells cs 5 (n, n + 1))) := by
  have hsh : (w.alloc (.cells cs 5)).shape? w.heap.size = some (5, n) := by
    unfold World.shape?
    rw [alloc_at]
    simp [hcs]
  rw [← freeze_alloc]
  simp [convert, go_sem, markStringish, hsh]
end Go.Proofs.YtgdnndapmcjoeaaDoor
