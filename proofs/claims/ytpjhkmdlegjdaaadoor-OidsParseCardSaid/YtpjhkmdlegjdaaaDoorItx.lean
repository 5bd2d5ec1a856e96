/- The walk of package oids' Text. -/
import Derived.Test.YtpjhkmdlegjdaaaDoorIt5
import Derived.Test.YtpjhkmdlegjdaaaDoorOl2
namespace Go.Proofs.YtpjhkmdlegjdaaaDoor
open Go.RowKit

theorem join_text : ∀ l : List Int, l ≠ [] → Lib.join (l.map fun n => (strOf (Wh.dig n.toNat)).data.toList) [46] = (Od.text l).map UInt8.ofNat
  | [n], _ => by
    rw [List.map_cons, List.map_nil, Lib.join_one]
    simp [Od.text, strOf]
  | x :: y :: r, _ => by
    have h := join_text (y :: r) (by simp)
    have e : Od.text (x :: y :: r) = Wh.dig x.toNat ++ 46 :: Od.text (y :: r) := rfl
    rw [List.map_cons, Lib.join_cons] at h
    rw [e, List.map_cons, List.map_cons, Lib.join_cons, List.map_append, List.map_cons, ← h]
    simp [Lib.joinTail, strOf]
theorem join_strs (l : List Int) (hl : l ≠ []) (h0 : ∀ n ∈ l, 0 ≤ n) : (⟨(Lib.join ((l.map fun n => strOf (serL n)).map (·.data.toList)) (⟨#[46]⟩ : ByteArray).data.toList).toArray⟩ : ByteArray) = strOf (Od.text l) := by
  have e : (l.map fun n => strOf (serL n)).map (·.data.toList) = l.map fun n => (strOf (Wh.dig n.toNat)).data.toList := by
    rw [List.map_map]
    apply List.map_congr_left
    intro n hn
    have := h0 n hn
    simp [serL, show ¬ n < 0 by omega]
  rw [e, show (⟨#[46]⟩ : ByteArray).data.toList = [46] from rfl, join_text l hl]
  rfl

theorem makeS (L : Nat) (hL : L ≤ 100) (W : World) : (Instr.makeSlice 51 (.int .i64 (L : Int)) (.int .i64 (L : Int))).run Tryd.prog W = .ok (.slice (some ⟨W.heap.size, 0, none⟩) L L) (W.alloc (.cells (cellsS (List.replicate L [])).toArray 9)) := by
  obtain ⟨iT, i1, i2, i3, i4⟩ := info_parts (P := Tryd.prog) (e := 9) (z := .string ⟨#[]⟩) (size := 1) (bytes := 16) (by kernel_rfl)
  rw [run_makeSlice W 51 9 iT (.string ⟨#[]⟩) Tryd.underlying51 i1 i2 .i64 .i64 L L (by omega) (by omega) (by rw [i3]; simp; omega) (by rw [i4]; simp; omega) (by omega), i3]
  have e : madeCells (Value.string ⟨#[]⟩).cells (Int.toNat (L : Int) * 1) = (cellsS (List.replicate L [])).toArray := by
    simp [madeCells, cellsS, Value.cells]
    apply Array.ext
    · simp
    · intro i h1 h2
      simp [Nat.mod_one, strOf]
  rw [e]
  rfl

/-- The texts of the first k arcs stand in the new block. -/
structure PutT (w w' : World) (l : List Int) (k : Nat) : Prop where
  grown : w.grownBy w' none
  blk : w'.heap[w.heap.size]? = some (.cells (cellsS ((l.take k).map serL ++ List.replicate (l.length - k) [])).toArray 9 (0, 0))
theorem PutT.set {w w' : World} {l : List Int} {k : Nat} (h : PutT w w' l k) (hk : k < l.length) : PutT w (w'.setCell ⟨w.heap.size, k, none⟩ (.string (strOf (serL (l.getD k 0))))) l (k + 1) := by
  refine ⟨grown_set h.grown (.inl (Nat.le_refl _)) _, ?_⟩
  rw [heap_setCell_same w' w.heap.size k _ 9 _ h.blk]
  congr 2
  have e1 : (l.take (k + 1)).map serL = (l.take k).map serL ++ [serL (l.getD k 0)] := by
    rw [List.take_add_one, List.map_append, List.getElem?_eq_getElem hk, List.getD_eq_getElem?_getD, List.getElem?_eq_getElem hk]
    simp
  obtain ⟨m, hm⟩ : ∃ m, l.length - k = m + 1 := ⟨l.length - k - 1, by omega⟩
  rw [e1, hm, show l.length - (k + 1) = m by omega, List.setIfInBounds_toArray]
  unfold cellsS
  rw [List.map_append, List.map_append, List.map_append, List.set_append_right _ _ (by simp; omega)]
  simp [List.replicate_succ, Nat.min_eq_left (Nat.le_of_lt hk)]
theorem PutT.zero {w w' : World} {l : List Int} {k : Nat} (h : PutT w w' l k) (hk : k < l.length) : w'.cell? ⟨w.heap.size, k, none⟩ = some (.string (strOf [])) :=
  cell_blk h.blk k (by
    obtain ⟨m, hm⟩ : ∃ m, l.length - k = m + 1 := ⟨l.length - k - 1, by omega⟩
    rw [hm]
    simp [cellsS, Nat.min_eq_left (Nat.le_of_lt hk)])
theorem PutT.more {w w1 w2 : World} {l : List Int} {k : Nat} (h : PutT w w1 l k) (hg : w1.grownBy w2 none) : PutT w w2 l k :=
  ⟨grown_trans h.grown hg, (hg.block _ (blk_lt h.blk) (by simp)).trans h.blk⟩

set_option maxRecDepth 100000 in
set_option maxHeartbeats 2000000 in
theorem tx_spec (A : Nat → Addr) (tp : TypeId) (p : Value) (w0 : World) (hF0 : Figs w0 tp p) (hE0 : RFErrs w0 A) : TxSpec A w0 := by
  intro v l w hw hI hl
  have HId := Lib.hid (isId_any v l w hI (by omega))
  by_cases hr : Od.right l = true
  · rw [if_pos hr]
    obtain ⟨⟨hl2, hl16, _⟩, hall⟩ := (Od.right_iff l).1 hr
    have hall2 : ∀ j, j < l.length → 0 ≤ l.getD j 0 ∧ l.getD j 0 ≤ 2147483647 := fun j hj => by
      have e : l.getD j 0 = l[j] := by rw [List.getD_eq_getElem?_getD, List.getElem?_eq_getElem hj]; rfl
      rw [e]; exact hall l[j] (List.getElem_mem hj)
    obtain ⟨a, g, o, c, rfl, hc, ha, hcell⟩ := hI
    obtain ⟨rfl, hg⟩ := ha (by omega)
    rw [hr] at HId
    have HS := Lib.hid (fun (z : Int) (hz : z ≤ 2147483647) W hW => serial_any z (by omega) tp p W (hF0.grown (grown_trans hw hW)))
    have HCl : Hid (∀ W, w.grownBy W none → ∀ j, j < l.length → W.cell? ⟨g, o + j, none⟩ = some (.int .i64 (l.getD j 0))) := Lib.hid (fun W hW j hj => by
      have := hcell j hj
      rw [← World.cell?_of_block (hW.block g hg (by simp))] at this
      exact this)
    have HJ : Hid (∀ W, PutT w W l l.length → Calls Tryd.prog 32 #[.slice (some ⟨w.heap.size, 0, none⟩) l.length l.length, .string ⟨#[46]⟩] W fun e w' => e = .returned (.string (strOf (Od.text l))) ∧ W.grownBy w' none) := Lib.hid (fun W hW => by
      have hb := hW.blk
      rw [Nat.sub_self, List.replicate_zero, List.append_nil, List.take_length] at hb
      have hj := join_strs l (by intro e; rw [e] at hl2; simp at hl2) (fun n hn => (hall n hn).1)
      have hlen : (Lib.join ((l.map fun n => strOf (serL n)).map (·.data.toList)) (⟨#[46]⟩ : ByteArray).data.toList).length = (strOf (Od.text l)).size := by rw [← hj]; rfl
      have hT := Od.text_len l
      have := Any.strings_Join Tryd.lays156 Tryd.Builder_Extra_156 w.heap.size 0 l.length (l.map fun n => strOf (serL n)) ⟨#[46]⟩ W
        (fun j x hx => by
          rw [Nat.zero_add]
          refine cell_blk hb j ?_
          rw [List.getElem?_map] at hx
          simp only [cellsS, List.map_map, List.getElem?_toArray, List.getElem?_map]
          cases hq : l[j]? with
          | none => rw [hq] at hx; cases hx
          | some z => rw [hq] at hx; simp at hx ⊢; exact hx)
        (blk_lt hb) (by rw [List.length_map]; omega) (by rw [List.length_map]; omega) (by rw [hlen, strOf_size]; omega)
      rw [hj, List.length_map] at this
      exact this.mono (fun e w' h => ⟨h.1, grown_of_below h.2⟩))
    have HP0 : Hid (PutT w (w.alloc (.cells (cellsS (List.replicate l.length [])).toArray 9)) l 0) := Lib.hid ⟨World.grownBy_alloc _ _ _, by rw [alloc_at]; simp⟩
    have HSet := Lib.hid (fun W k (h : PutT w W l k) hk => h.set hk)
    have HZer := Lib.hid (fun W k (h : PutT w W l k) hk => h.zero hk)
    have HAl := Lib.hid hall2
    have hmk := makeS l.length (by omega) w
    obtain ⟨n, hn⟩ : ∃ n, n = l.length := ⟨_, rfl⟩
    rw [← hn] at HId HJ HP0 HCl HSet HZer HAl hmk hl16 hl2 hc ⊢
    generalize strOf (Od.text l) = R at *
    clear hall hall2 hcell ha hF0 hE0 hw hl hr hn
    go_enter Tryd.func15, Tryd.ntmps15
    go_wp2_with (go_at_call 24; refine HId.out.mono ?_; rintro e w1 ⟨rfl, hw1⟩; have hw2 := hw1.symm; subst hw2; clear hw1)
    clear hmk
    go_loopw [16] (fun i wr => ∃ k : Nat, k ≤ n ∧ i = .int .i64 k ∧ PutT w wr l k) (fun i _ => n - (intOf i).toNat)
    case atStart => exact ⟨0, by omega, rfl, HP0.out⟩
    case round =>
      obtain ⟨k, hk, rfl, hP⟩ := hrel
      have HP := Lib.hid hP
      clear hP
      by_cases hkn : k < n
      · have hck := HCl.out _ HP.out.grown k hkn
        have HZ := Lib.hid (HAl.out k hkn)
        have HSk := Lib.hid (fun W h => HSet.out W k h hkn)
        generalize l.getD k 0 = z at *
        go_wp2_with (go_at_call 31; refine (HS.out z HZ.out.2 _ HP.out.grown).mono ?_; rintro e w3 ⟨rfl, hg3⟩; have HP3 := Lib.hid (HP.out.more hg3); have HB3 := Lib.hid (HP.out.more hg3).blk; have x1 := free_blk HB3.out k; have x0 := HZer.out _ k HP3.out hkn; clear hg3)
        go_roundw
        case rel => exact ⟨k + 1, by omega, by go_num, HSk.out _ HP3.out⟩
        case measure => simp [intOf]; omega
      · obtain rfl : k = n := by omega
        go_wp2_with (go_at_call 32; refine (HJ.out _ HP.out).mono ?_; rintro e w3 ⟨rfl, hg3⟩; have HG3 := Lib.hid (grown_trans HP.out.grown hg3); clear hg3)
        go_ret2
        exact ⟨HG3.out, rfl⟩
  · rw [if_neg hr]
    rw [Bool.not_eq_true] at hr
    rw [hr] at HId
    have eR := (hE0.grown hw).range
    clear hE0 hF0 hI hr
    go_enter Tryd.func15, Tryd.ntmps15
    go_wp2_with (go_at_call 24; refine HId.out.mono ?_; rintro e w1 ⟨rfl, hw1⟩; have hw2 := hw1.symm; subst hw2; clear hw1)
    go_quiet (fail)
    go_wp2
    go_ret2
    exact ⟨grown_drewN (grown_refl _ _) _, rfl⟩
end Go.Proofs.YtpjhkmdlegjdaaaDoor
