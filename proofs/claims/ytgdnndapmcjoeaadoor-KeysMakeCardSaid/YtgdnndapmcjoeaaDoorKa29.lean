import Derived.Test.YtgdnndapmcjoeaaDoorKa03
import Derived.Test.YtgdnndapmcjoeaaDoorKa15
import Derived.Test.YtgdnndapmcjoeaaDoorKa24
import Derived.Test.YtgdnndapmcjoeaaDoorKa28
namespace Go.Proofs.YtgdnndapmcjoeaaDoor
open Go.RowKit
def fig (n : Nat) : Nat := if n < 10 then 48 + n else 87 + n
def hexL : List Nat → List Nat
  | [] => []
  | b :: r => fig (b / 16) :: fig (b % 16) :: hexL r
theorem hexL_append (a b : List Nat) : hexL (a ++ b) = hexL a ++ hexL b := by
  induction a with
  | nil => rfl
  | cons x r ih => simp [hexL, ih]
theorem hexL_len (l : List Nat) : (hexL l).length = 2 * l.length := by
  induction l with
  | nil => rfl
  | cons x r ih => simp [hexL, ih]; omega
theorem fig_lt {n : Nat} (h : n < 16) : fig n < 256 := by unfold fig; split <;> omega
theorem hexL_lt {l : List Nat} (h : ∀ x ∈ l, x < 256) : ∀ x ∈ hexL l, x < 256 := by
  induction l with
  | nil => intro x hx; simp [hexL] at hx
  | cons y r ih =>
    intro x hx
    have hy := h y (by simp)
    simp only [hexL, List.mem_cons] at hx
    rcases hx with rfl | rfl | hx
    · exact fig_lt (by omega)
    · exact fig_lt (by omega)
    · exact ih (fun z hz => h z (by simp [hz])) x hx
theorem hexL_take {l : List Nat} {k : Nat} (h : k < l.length) : hexL (l.take (k + 1)) = hexL (l.take k) ++ [fig (l.getD k 0 / 16), fig (l.getD k 0 % 16)] := by
  rw [List.take_add_one, List.getElem?_eq_getElem h, hexL_append]
  simp [hexL, List.getD_eq_getElem?_getD, List.getElem?_eq_getElem h]
def figS : ByteArray := ⟨#[48, 49, 50, 51, 52, 53, 54, 55, 56, 57, 97, 98, 99, 100, 101, 102]⟩
theorem figS_at (w : World) (x : Nat) (hx : x < 16) (k : IntKind) : (Instr.index 9 (.string figS) (.int k (x : Int))).run Tryd.prog w = .ok (.int .u8 (fig x : Nat)) w := by
  rw [run_index_string w _ figS k x Tryd.underlying9, dif_pos ⟨by omega, by show (x : Int) < 16; omega⟩]
  congr 2
  match x, hx with
  | 0, _ => rfl
  | 1, _ => rfl
  | 2, _ => rfl
  | 3, _ => rfl
  | 4, _ => rfl
  | 5, _ => rfl
  | 6, _ => rfl
  | 7, _ => rfl
  | 8, _ => rfl
  | 9, _ => rfl
  | 10, _ => rfl
  | 11, _ => rfl
  | 12, _ => rfl
  | 13, _ => rfl
  | 14, _ => rfl
  | 15, _ => rfl
  | n + 16, h => omega
def zeros64 : Array Value := bytesV (List.replicate 64 0)
/-- The world in Text's loop: the box, the text's room. -/
structure TxtW (w wr : World) (d done : List Nat) : Prop where
  grown : w.grownBy wr none
  blk : wr.heap[w.heap.size + 1]? = some (.cells (bytesV (done ++ List.replicate (64 - done.length) 0)) 112 (0, 0))
theorem TxtW.set {w wr : World} {d done : List Nat} (h : TxtW w wr d done) (hd : done.length < 64) (x : Nat) : TxtW w (wr.setCell ⟨w.heap.size + 1, done.length, none⟩ (.int .u8 (x : Int))) d (done ++ [x]) :=
  ⟨grown_set h.grown (.inl (by show w.heap.size ≤ w.heap.size + 1; omega)) _, by rw [setCell_heap h.blk, bytesV_set 64 done x hd]⟩
set_option maxRecDepth 100000 in
set_option maxHeartbeats 1000000 in
theorem text_any (d : List Nat) (hd : d.length = 32) (hlt : ∀ x ∈ d, x < 256) (w : World) :
    Calls Tryd.prog 48 #[.agg (bytesV d)] w fun e w' => e = .returned (.string (strOf (hexL d))) ∧ w.grownBy w' none := by
  obtain ⟨V, hV⟩ : ∃ V, V = bytesV d := ⟨_, rfl⟩
  have hz64 : ∀ w, (zeroValue 112).run Tryd.prog w = .ok (.agg zeros64) w := fun _ => by kernel_rfl
  have hix : ∀ k : Nat, k < 32 → ∀ W, (Instr.index 64 (.agg V) (.int .i64 (k : Int))).run Tryd.prog W = .ok (.int .u8 (d.getD k 0 : Nat)) W := fun k hk W => by
    rw [hV]
    exact run_index_agg W _ 5 32 _ _ k _ Tryd.underlying64 (fun _ => by kernel_rfl) (fun _ => by kernel_rfl) hk (bytesV_at d k (by omega))
  have i32 : Hid ((Tryd.prog.info? 64).map (·.size) = some V.size) := by rw [hV, bytesV_size, hd]; exact Lib.hid (by kernel_rfl)
  rw [← hV]
  have HV := Lib.hid hV
  have HIx := Lib.hid hix
  have Hlt := Lib.hid hlt
  have Hd := Lib.hid hd
  have T0 : Hid (TxtW w ((w.alloc (.cells V 64)).alloc (.cells zeros64 112)) d []) := Lib.hid ⟨grown_alloc (World.grownBy_alloc _ _ _) _, alloc2_new _ _ _⟩
  clear hV hix hlt hd
  go_enter Tryd.func48, Tryd.ntmps48
  go_wp2_with (refine wpList_load_row (by rfl) 64 (.tmp 1) (by rfl) w.heap.size (by rfl) _ V (0, 0) _ (alloc2_old _ _ _) Tryd.underlying64 (by rfl) i32.out ?_)
  go_loopw [7] (fun i wr => ∃ k : Nat, k ≤ 32 ∧ i = .int .i64 k ∧ TxtW w wr d (hexL (d.take k))) (fun i _ => 32 - (intOf i).toNat)
  case atStart => exact ⟨0, by omega, rfl, by simpa [hexL] using T0.out⟩
  case round =>
    obtain ⟨k, hk, rfl, hT⟩ := hrel
    have HT := Lib.hid hT
    by_cases hk32 : k < 32
    · have hixk := HIx.out k hk32
      obtain ⟨x, hx⟩ : ∃ x, x = d.getD k 0 := ⟨_, rfl⟩
      rw [← hx] at hixk
      have hx256 : x < 256 := by rw [hx]; exact getD_lt' Hlt.out k
      have hand : bits .and .u8 (x : Int) 15 = ((x % 16 : Nat) : Int) := by
        have := u8_and_nat x 15 hx256 (by decide)
        rw [show x &&& 15 = x % 16 from Nat.and_two_pow_sub_one_eq_mod x 4] at this
        exact this
      have F1 : ∀ W, (Instr.index 9 (.string ⟨#[48, 49, 50, 51, 52, 53, 54, 55, 56, 57, 97, 98, 99, 100, 101, 102]⟩) (.int .u8 ((x : Int) / 16))).run Tryd.prog W = .ok (.int .u8 (fig (x / 16) : Nat)) W := fun W => by
        rw [show (x : Int) / 16 = ((x / 16 : Nat) : Int) by simp]
        exact figS_at W (x / 16) (by omega) .u8
      have F2' : ∀ W, (Instr.index 9 (.string ⟨#[48, 49, 50, 51, 52, 53, 54, 55, 56, 57, 97, 98, 99, 100, 101, 102]⟩) (.int .u8 (bits .and .u8 (x : Int) 15))).run Tryd.prog W = .ok (.int .u8 (fig (x % 16) : Nat)) W := fun W => by
        rw [hand]
        exact figS_at W (x % 16) (by omega) .u8
      have F3 : ∀ W, (Instr.index 9 (.string ⟨#[48, 49, 50, 51, 52, 53, 54, 55, 56, 57, 97, 98, 99, 100, 101, 102]⟩) (.int .u8 ((x % 16 : Nat) : Int))).run Tryd.prog W = .ok (.int .u8 (fig (x % 16) : Nat)) W := fun W => figS_at W (x % 16) (by omega) .u8
      have F4 : ∀ W, (Instr.index 9 (.string ⟨#[48, 49, 50, 51, 52, 53, 54, 55, 56, 57, 97, 98, 99, 100, 101, 102]⟩) (.int .u8 ((x : Int) % 16))).run Tryd.prog W = .ok (.int .u8 (fig (x % 16) : Nat)) W := fun W => by
        rw [show (x : Int) % 16 = ((x % 16 : Nat) : Int) by simp]
        exact figS_at W (x % 16) (by omega) .u8
      have hlen : (hexL (d.take k)).length = 2 * k := by rw [hexL_len, List.length_take, Hd.out]; omega
      have T1 := hT.set (by rw [hlen]; omega) (fig (x / 16))
      have T2 := T1.set (by rw [List.length_append, hlen]; simp; omega) (fig (x % 16))
      rw [hlen] at T1 T2
      have hl1 : (hexL (d.take k) ++ [fig (x / 16)]).length = 2 * k + 1 := by rw [List.length_append, hlen]; rfl
      rw [hl1] at T2
      have HH : Hid (hexL (d.take (k + 1)) = hexL (d.take k) ++ [fig (x / 16)] ++ [fig (x % 16)]) := Lib.hid (by rw [hexL_take (by rw [Hd.out]; exact hk32), ← hx]; simp)
      have c0 := cell_blk hT.blk (2 * k) (by have := bytesV_zero 64 (hexL (d.take k)) (by omega); rwa [hlen] at this ⊢)
      have f0 := free_blk hT.blk (2 * k)
      have c1 := cell_blk T1.blk (2 * k + 1) (by have := bytesV_zero 64 (hexL (d.take k) ++ [fig (x / 16)]) (by omega); rwa [hl1] at this ⊢)
      have f1 := free_blk T1.blk (2 * k + 1)
      have HT2 := Lib.hid T2
      clear T1 T2 hT hlen hl1 hx hand F2'
      generalize fig (x / 16) = y1 at *
      generalize fig (x % 16) = y2 at *
      go_wp2
      go_roundw
      case rel => exact ⟨k + 1, by omega, by go_num, by rw [HH.out]; exact HT2.out⟩
      case measure => simp [intOf]; omega
    · obtain rfl : k = 32 := by omega
      have hb := hT.blk
      rw [show d.take 32 = d by rw [List.take_of_length_le (by rw [Hd.out]; exact Nat.le_refl _)]] at hb
      have hl : (hexL d).length = 64 := by rw [hexL_len, Hd.out]
      rw [hl] at hb
      have hBy : Bytes wr (.slice (some ⟨w.heap.size + 1, 0, none⟩) 64 64) (hexL d) := by
        have := Bytes.lit (w := wr) (g := w.heap.size + 1) (l := hexL d) (t := 112) (fr := (0, 0)) (by have := hb; simpa [bytesV, cellsL] using this) (hexL_lt Hlt.out)
        rwa [hl] at this
      have hcv := conv_bytes (P := Tryd.prog) hBy 22 5 9 Tryd.underlying22 Tryd.underlying5 Tryd.underlying9
      clear hT hb hl hBy
      go_wp2
      go_ret
      exact ⟨rfl, HT.out.grown⟩
end Go.Proofs.YtgdnndapmcjoeaaDoor
namespace Go.Proofs.YtgdnndapmcjoeaaDoor
open Go.RowKit
end Go.Proofs.YtgdnndapmcjoeaaDoor
namespace Go.Proofs.YtgdnndapmcjoeaaDoor
open Go.RowKit
theorem hexL_take2 (l : List Nat) : ∀ k, hexL (l.take k) = (hexL l).take (2 * k) := by
  induction l with
  | nil => intro k; simp [hexL]
  | cons a r ih =>
    intro k
    match k with
    | 0 => simp [hexL]
    | k + 1 =>
      rw [show 2 * (k + 1) = 2 * k + 1 + 1 by omega]
      simp [hexL, ih k]
theorem strOf_take (l : List Nat) (n : Nat) : (strOf l).extract 0 n = strOf (l.take n) := by
  apply ByteArray.ext
  simp [strOf, ByteArray.data_extract, List.map_take]
theorem id_slice (d : List Nat) (hd : d.length = 32) (X : ByteArray) (hX : X = strOf (hexL d)) (W : World) : (Instr.slice 9 (.string X) none (some (.int .i64 32)) none).run Tryd.prog W = .ok (.string (strOf (hexL (d.take 16)))) W := by
  have hs : X.size = 64 := by rw [hX, strOf_size, hexL_len, hd]
  rw [run_slice_string_to_if (P := Tryd.prog) W 9 X .i64 32 Tryd.underlying9, if_pos (by rw [hs]; decide)]
  rw [hexL_take2, ← strOf_take, hX]
  rfl
theorem id_slice' (d : List Nat) (hd : d.length = 32) (X : ByteArray) (hX : X = strOf (hexL d)) (W : World) : (Instr.sliceAt 9 (.string X) none (some (.int .i64 32)) none).run Tryd.prog W = .ok (.string (strOf (hexL (d.take 16)))) W := by
  rw [run_sliceAt_string _ _ _ _ _ _ Tryd.underlying9]
  exact id_slice d hd X hX W
end Go.Proofs.YtgdnndapmcjoeaaDoor
namespace Go.Proofs.YtgdnndapmcjoeaaDoor
open Go.RowKit
/-- Behind a copy into a block of the call's own. -/
theorem grown_copy {w w3 w5 : World} {o : Obj} (h3 : w.grownBy w3 none) (h5 : (w3.alloc o).grownBy w5 (some w3.heap.size)) : w.grownBy w5 none :=
  grown_forget (grown_alloc h3 o) h3.size h5
theorem old_copy {w3 w5 : World} {o : Obj} {b : Nat} {x : Option Obj} (hb : b < w3.heap.size) (h : w3.heap[b]? = x) (h5 : (w3.alloc o).grownBy w5 (some w3.heap.size)) : w5.heap[b]? = x :=
  (h5.block b (by rw [alloc_size]; omega) (fun e => by have := Option.some.inj e; omega)).trans ((alloc_old _ _ _ hb).trans h)
set_option maxRecDepth 100000 in
set_option maxHeartbeats 1000000 in
theorem stretch_any (v : Value) (k : List Nat) (w : World) (hB : Bytes w v k) (hk : k.length < 1152921504606846000) (hL : Laid w) :
    Calls Tryd.prog 55 #[v] w fun e w' => e = .returned (.agg (bytesV (Hm.blk k))) ∧ w.grownBy w' none := by
  have hz64 : ∀ w, (zeroValue 112).run Tryd.prog w = .ok (.agg zeros64) w := fun _ => by kernel_rfl
  have hz32 := zeros32_at w
  have hzl : Hid ((List.replicate 64 0 : List Nat).length = 64) := Lib.hid (List.length_replicate ..)
  obtain ⟨V, hV⟩ : ∃ V, V = bytesV (Hm.blk k) := ⟨_, rfl⟩
  have hVl : V.size = 64 := by rw [hV, bytesV_size, Hm.blk_len]
  have HI1 : Hid ((Tryd.prog.info? 112).map (·.size) = some V.size) := by rw [hVl]; exact Lib.hid (by kernel_rfl)
  have HI2 : Hid (zeros64.size = V.size) := by rw [hVl]; exact Lib.hid (by rw [zeros64, bytesV_size, hzl.out])
  have HO : Hid (V.all (·.oneCell') = true) := by rw [hV]; exact Lib.hid (bytesV_one _)
  rw [← hV]
  have HB := Lib.hid hB
  obtain ⟨hlt, va, vb, vo, vc, rfl, hvc, ha, hcell⟩ := hB
  obtain ⟨m, hm⟩ : ∃ m, m = k.length := ⟨_, rfl⟩
  rw [← hm] at hvc hk HB ⊢
  by_cases hl : 64 < m
  · have hk0 : Hm.key0 k = Sha.sum k := Hm.key0_long (by rw [← hm]; exact hl)
    have hV2 : bytesV (Sha.sum k ++ (List.replicate 64 0).drop (Sha.sum k).length) = V := by rw [hV, Hm.blk, hk0, List.drop_replicate]
    obtain ⟨D, hD⟩ : ∃ D, D = bytesV (Sha.sum k) := ⟨_, rfl⟩
    have hDl : D.size = 32 := by rw [hD, bytesV_size, Sha.sum_len]
    have HI3 : Hid ((Tryd.prog.info? 64).map (·.size) = some D.size) := by rw [hDl]; exact Lib.hid (by kernel_rfl)
    have HI4 : Hid (zeros32.size = D.size) := by rw [hDl]; exact Lib.hid rfl
    have HO1 : Hid (D.all (·.oneCell') = true) := by rw [hD]; exact Lib.hid (bytesV_one _)
    have HS : Hid (Calls Tryd.prog 60 #[.slice (some ⟨w.heap.size + 1, 0, none⟩) 1 1] ((w.alloc (.cells zeros64 112)).alloc (.cells #[.slice va m vc] 22)) fun e w' => e = .returned (.agg D) ∧ w.grownBy w' none ∧ w'.heap[w.heap.size]? = some (.cells zeros64 112 (0, 0))) := Lib.hid (by
      have e : [k].flatten = k := by simp
      obtain ⟨W1, hW1⟩ : ∃ W1, W1 = (w.alloc (.cells zeros64 112)).alloc (.cells #[.slice va m vc] 22) := ⟨_, rfl⟩
      have gW : w.grownBy W1 none := by rw [hW1]; exact grown_alloc (World.grownBy_alloc _ _ _) _
      have b0 : W1.heap[w.heap.size]? = some (.cells zeros64 112 (0, 0)) := by rw [hW1]; exact alloc2_old _ _ _
      have b1 : W1.heap[w.heap.size + 1]? = some (.cells #[.slice va m vc] 22 (0, 0)) := by rw [hW1]; exact alloc2_new _ _ _
      rw [← hW1]
      refine (psum_any [k] (some ⟨w.heap.size + 1, 0, none⟩) (w.heap.size + 1) 0 1 1 rfl W1 (fun _ => ⟨rfl, blk_lt b1⟩) (fun i hi => ?_) (by rw [e, ← hm]; exact hk) (by decide) (hL.grown gW (by simp) (by simp))).mono ?_
      · match i, hi with
        | 0, _ => exact ⟨.slice va m vc, cell_blk b1 0 rfl, HB.out.grown gW⟩
      · rintro e' w' ⟨rfl, hg'⟩
        exact ⟨by rw [e, hD], grown_trans gW hg', (hg'.block _ (blk_lt b0) (by simp)).trans b0⟩)
    have HD := Lib.hid hD
    have HV2 := Lib.hid hV2
    clear hV hk0 hV2 hD hDl hVl hm hlt ha hcell hL
    go_enter Tryd.func55, Tryd.ntmps55
    go_wp2_with (first
      | (go_at_call 60; refine HS.out.mono ?_; rintro e w2 ⟨rfl, hg2, hb2⟩; have G2 := Lib.hid hg2; have B2 := Lib.hid hb2; have Z2 := Lib.hid (alloc_at w2 (.cells zeros32 64)); clear hg2 hb2)
      | (refine wpList_store_row (by rfl) 64 (.tmp 3) (.tmp 10) (by rfl) w2.heap.size D (by rfl) (by rfl) _ _ Z2.out HI3.out HI4.out HO1.out ?_; obtain ⟨W3, hW3⟩ : ∃ W3, W3 = (w2.alloc (.cells zeros32 64)).setRow w2.heap.size D := ⟨_, rfl⟩; rw [← hW3]; have g23 : Hid (w2.grownBy W3 none) := Lib.hid (by rw [hW3]; exact grown_setRow (World.grownBy_alloc _ _ _) (Nat.le_refl _) _); have b3 : Hid (W3.heap[w2.heap.size]? = some (.cells D 64 (0, 0))) := Lib.hid (by rw [hW3]; exact setRow_heap _ _ _ _ _ _ Z2.out); clear hW3)
      | (refine wpList_copyB (by rfl) (.tmp 12) (.tmp 13) 22 22 (by rfl) Tryd.underlying22 (by kernel_rfl) (b := W3.heap.size) (N := 64) (Z := List.replicate 64 0) (l := Sha.sum k) (T := 112) (v := .slice (some ⟨w2.heap.size, 0, none⟩) 32 32) (by rfl) (by rfl) (alloc_at W3 _) hzl.out (by have hB5 := Bytes.lit (w := W3.alloc (.cells zeros64 112)) (g := w2.heap.size) (l := Sha.sum k) (t := 64) (fr := (0, 0)) (by rw [alloc_old _ _ _ (blk_lt b3.out), b3.out, HD.out]; rfl) (sum_lt' k); rw [Sha.sum_len] at hB5; exact hB5) (by rw [Sha.sum_len]; decide) ?_; intro w5 hb5 hg5; rw [HV2.out] at hb5; have B5 := Lib.hid hb5; have G5 := Lib.hid (grown_copy (grown_trans G2.out g23.out) hg5); have X5 := Lib.hid (old_copy (Nat.lt_of_lt_of_le (blk_lt B2.out) g23.out.size) ((g23.out.block _ (blk_lt B2.out) (by simp)).trans B2.out) hg5); clear hb5 hg5)
      | (refine wpList_load_row (by rfl) 112 (.tmp 4) (by rfl) W3.heap.size (by rfl) _ V (0, 0) _ B5.out Tryd.underlying112 (by rfl) HI1.out ?_)
      | (refine wpList_store_row (by rfl) 112 (.tmp 2) (.tmp 15) (by rfl) w.heap.size V (by rfl) (by rfl) _ _ X5.out HI1.out HI2.out HO.out ?_))
    refine bodyPost_ret (v := .agg V) ?_ rfl ⟨rfl, grown_setRow G5.out (Nat.le_refl _) _⟩
    exact results_cell_row Tryd.results55 _ _ w.heap.size _ _ (0, 0) _ rfl (setRow_heap _ _ _ V _ _ X5.out) Tryd.underlying112 rfl HI1.out
  · have hk0 : Hm.key0 k = k := Hm.key0_short (by rw [← hm]; exact hl)
    have hV2 : bytesV (k ++ (List.replicate 64 0).drop k.length) = V := by rw [hV, Hm.blk, hk0, List.drop_replicate]
    have HV2 := Lib.hid hV2
    have Hm' := Lib.hid hm
    have B1 := Lib.hid (alloc2_old w (.cells zeros64 112) (.cells zeros64 112))
    have hml : m ≤ 64 := by omega
    clear hV hk0 hV2 hVl hm hlt ha hcell hL
    go_enter Tryd.func55, Tryd.ntmps55
    go_wp2_with (first
      | (refine wpList_copyB (by rfl) (.tmp 12) (.tmp 13) 22 22 (by rfl) Tryd.underlying22 (by kernel_rfl) (b := w.heap.size + 1) (N := 64) (Z := List.replicate 64 0) (l := k) (T := 112) (v := .slice va m vc) (by rfl) (by rfl) (alloc2_new w _ _) hzl.out (HB.out.grown (grown_alloc (World.grownBy_alloc _ _ _) _)) (by rw [← Hm'.out]; exact hml) ?_; intro w5 hb5 hg5; rw [HV2.out] at hb5; have B5 := Lib.hid hb5; have G5 := Lib.hid (grown_forget (grown_alloc (World.grownBy_alloc w _ none) _) (Nat.le_succ _) hg5); have X5 := Lib.hid ((hg5.block w.heap.size (by rw [alloc2_size]; omega) (fun e => by have := Option.some.inj e; omega)).trans B1.out); clear hb5 hg5)
      | (refine wpList_load_row (by rfl) 112 (.tmp 4) (by rfl) (w.heap.size + 1) (by rfl) _ V (0, 0) _ B5.out Tryd.underlying112 (by rfl) HI1.out ?_)
      | (refine wpList_store_row (by rfl) 112 (.tmp 2) (.tmp 15) (by rfl) w.heap.size V (by rfl) (by rfl) _ _ X5.out HI1.out HI2.out HO.out ?_))
    refine bodyPost_ret (v := .agg V) ?_ rfl ⟨rfl, grown_setRow G5.out (Nat.le_refl _) _⟩
    exact results_cell_row Tryd.results55 _ _ w.heap.size _ _ (0, 0) _ rfl (setRow_heap _ _ _ V _ _ X5.out) Tryd.underlying112 rfl HI1.out
end Go.Proofs.YtgdnndapmcjoeaaDoor
