/- The document's Parse of subjects (its walk by wip/tools/gennq4.py). -/
import Derived.Test.YtepjjgplnmkjgaaDoorNq3
import Derived.BigRegion
namespace Go.Proofs.YtepjjgplnmkjgaaDoor
open Go.RowKit
set_option linter.unusedVariables false

theorem strL_extract (t : ByteArray) (i j : Nat) : strL (t.extract i j) = ((strL t).drop i).take (j - i) := by
  unfold strL
  rw [ByteArray.data_extract, Array.toList_extract, List.extract_eq_take_drop, List.map_take, List.map_drop]
theorem strL_sz (t : ByteArray) : (strL t).length = t.size := strL_len t
/-- Does a text begin with a word and a colon? -/
theorem pre_iff (t wk : ByteArray) : (∃ r, strL t = strL wk ++ 58 :: r) ↔ (wk.size + 1 ≤ t.size ∧ t.extract 0 (wk.size + 1) = wk ++ ⟨#[58]⟩) := by
  have e2 : strL ⟨#[58]⟩ = [58] := by decide +kernel
  constructor
  · rintro ⟨r, h⟩
    have hl := congrArg List.length h
    rw [strL_sz, List.length_append, strL_sz, List.length_cons] at hl
    refine ⟨by omega, Na.strL_eq ?_⟩
    rw [strL_extract, h, Na.strL_append, e2, List.drop_zero, Nat.sub_zero, List.take_append, strL_sz, List.take_of_length_le (by rw [strL_sz]; omega)]
    simp
  · rintro ⟨h1, h2⟩
    have h3 := congrArg strL h2
    rw [strL_extract, Na.strL_append, e2, List.drop_zero, Nat.sub_zero] at h3
    refine ⟨(strL t).drop (wk.size + 1), ?_⟩
    have h4 := List.take_append_drop (wk.size + 1) (strL t)
    rw [h3] at h4
    rw [show strL wk ++ 58 :: (strL t).drop (wk.size + 1) = strL wk ++ [58] ++ (strL t).drop (wk.size + 1) by simp]
    exact h4.symm
theorem pre_rest {t wk : ByteArray} {r : List Nat} (h : strL t = strL wk ++ 58 :: r) : strL (t.extract (wk.size + 1) t.size) = r := by
  have hl := congrArg List.length h
  rw [strL_sz, List.length_append, strL_sz, List.length_cons] at hl
  rw [strL_extract, h, List.drop_append, strL_sz, List.drop_of_length_le (by rw [strL_sz]; omega)]
  rw [show wk.size + 1 - wk.size = 1 by omega]
  simp only [List.nil_append, List.drop_succ_cons, List.drop_zero]
  exact List.take_of_length_le (by omega)
theorem pc_none (nm : ByteArray) (k : Nat) (h : k = 2 → ∀ j : Nat, j < nm.size → (strL nm).getD j 0 ≠ 47) : Na.pc (k : Int) (strL nm) = ⟨(k : Int), ⟨#[]⟩, nm⟩ := by
  unfold Na.pc
  by_cases e : (k : Int) = 2
  · have hno : (Na.cutN 47 (strL nm)).2.2 = false := by
      rcases Na.cutN_spec (c := 47) (strL nm) with ⟨_, h2⟩ | ⟨h1, _⟩
      · exfalso
        generalize Na.cutN 47 (strL nm) = c at h2
        have hl := congrArg List.length h2
        rw [strL_sz, List.length_append, List.length_cons] at hl
        refine h (by omega) c.1.length (by omega) ?_
        rw [h2, List.getD_eq_getElem?_getD, List.getElem?_append_right (Nat.le_refl _), Nat.sub_self]
        rfl
      · exact h1
    rw [if_neg (by rw [hno]; simp), strOf_strL]; rfl
  · rw [if_neg (fun h => e h.1), strOf_strL]; rfl
theorem pc_slash (nm : ByteArray) (n : Nat) (hn : n < nm.size) (hx : (strL nm).getD n 0 = 47) (hno : ∀ j : Nat, j < n → (strL nm).getD j 0 ≠ 47) : Na.pc ((2 : Nat) : Int) (strL nm) = ⟨((2 : Nat) : Int), nm.extract 0 n, nm.extract (n + 1) nm.size⟩ := by
  have hl := strL_sz nm
  have e : strL nm = (strL nm).take n ++ 47 :: (strL nm).drop (n + 1) := by
    have h1 := List.take_append_drop n (strL nm)
    have h2 : (strL nm).drop n = 47 :: (strL nm).drop (n + 1) := by
      rw [List.drop_eq_getElem_cons (by omega)]
      congr 1
      rw [List.getD_eq_getElem?_getD, List.getElem?_eq_getElem (by omega)] at hx
      simpa using hx
    rw [h2] at h1
    exact h1.symm
  have hcut : Na.cutN 47 (strL nm) = ((strL nm).take n, (strL nm).drop (n + 1), true) := by
    conv => lhs; rw [e]
    refine Na.cutN_hit (fun x hx => ?_)
    obtain ⟨j, hj, rfl⟩ := List.getElem_of_mem hx
    rw [List.length_take] at hj
    have := hno j (by omega)
    rw [List.getD_eq_getElem?_getD, List.getElem?_eq_getElem (by omega)] at this
    simpa using this
  unfold Na.pc
  rw [hcut, if_pos ⟨rfl, rfl⟩]
  simp only
  congr 1
  · apply Na.strL_eq
    rw [strL_extract, strL_strOf (fun x hx => strL_lt nm x (List.mem_of_mem_take hx))]
    simp
  · apply Na.strL_eq
    rw [strL_extract, strL_strOf (fun x hx => strL_lt nm x (List.mem_of_mem_drop hx)), List.take_of_length_le (by rw [List.length_drop, hl]; omega)]
/-- A kind whose reading of the text is right. -/
def Hit9 (t : ByteArray) (k : Nat) : Prop := ∃ r, strL t = strL (Na.word k) ++ 58 :: r ∧ Na.right (Na.pc k r) = true ∧ Na.text (Na.pc k r) = t
/-- What the document's Parse answers. -/
def RP9 (t : ByteArray) (e : Ending) : Prop := (∃ s, e = .returned (.tuple #[Na.val s, .bool true]) ∧ Na.right s = true ∧ Na.text s = t) ∨ (e = .returned (.tuple #[Na.val ⟨0, Na.e0, Na.e0⟩, .bool false]) ∧ ∀ k : Nat, 1 ≤ k → k ≤ 5 → ¬ Hit9 t k)
theorem RP9.yes {t : ByteArray} {s : Na.Sb} (h1 : Na.right s = true) (h2 : Na.text s = t) : RP9 t (.returned (.tuple #[Na.val s, .bool true])) := .inl ⟨s, rfl, h1, h2⟩
set_option maxRecDepth 100000 in
set_option maxHeartbeats 8000000 in
theorem refParse9_any (t : ByteArray) (ht : t.size ≤ 900) (w : World) : Calls Tryd.prog 10 #[.string t] w fun e w' => RP9 t e ∧ w.grownBy w' none := by
  have hI : (Tryd.prog.info? 27).map (·.size) = some 3 := by kernel_rfl
  have HRes0 := Lib.hid (alloc_at w (.cells #[.int .i64 0, .string ⟨#[]⟩, .string ⟨#[]⟩] 27))
  have HG0 := Lib.hid (grown_alloc (grown_refl w none) (.cells #[.int .i64 0, .string ⟨#[]⟩, .string ⟨#[]⟩] 27))
  have HWd := Lib.hid (fun (k : Nat) (hk : k ≤ 6) W => word_any (k : Int) ⟨by omega, by omega⟩ W)
  have HIx := Lib.hid (fun (s : ByteArray) (W : World) (n : Nat) (hn : n < s.size) => index_str W 9 Tryd.underlying9 s (n : Int) n rfl hn)
  go_enter Tryd.func10, Tryd.ntmps10
  go_wp2
  go_loopw [4] (fun i wr => ∃ k : Nat, 1 ≤ k ∧ k ≤ 6 ∧ i = .int .i64 (k : Int) ∧ w.grownBy wr none ∧ wr.heap[w.heap.size]? = some (.cells #[.int .i64 0, .string ⟨#[]⟩, .string ⟨#[]⟩] 27 (0, 0)) ∧ ∀ j : Nat, 1 ≤ j → j < k → ¬ Hit9 t j) (fun i _ => 6 - (intOf i).toNat)
  case atStart => exact ⟨1, by omega, by omega, rfl, HG0.out, HRes0.out, fun j hj1 hj2 => by omega⟩
  case round =>
    obtain ⟨k, hk1, hk6, rfl, hg, hres, h0⟩ := hrel
    have HG1 := Lib.hid hg
    have HRes1 := Lib.hid hres
    have H0 := Lib.hid h0
    clear hg hres h0 HRes0 HG0
    by_cases hk : k = 6
    · subst hk
      have y0 := free_blk HRes1.out 0
      have y1 := free_blk HRes1.out 1
      have y2 := free_blk HRes1.out 2
      have z0 := cell_blk HRes1.out 0 rfl
      have z1 := cell_blk HRes1.out 1 rfl
      have z2 := cell_blk HRes1.out 2 rfl
      clear HIx HWd
      go_wp2
      refine bodyPost_ret (v := .tuple #[.agg #[.int .i64 0, .string ⟨#[]⟩, .string ⟨#[]⟩], .bool false]) ?_ rfl ⟨.inr ⟨rfl, fun k h1 h5 => H0.out k h1 (by omega)⟩, grown_set (grown_set (grown_set HG1.out (.inl (Nat.le_refl _)) _) (.inl (Nat.le_refl _)) _) (.inl (Nat.le_refl _)) _⟩
      exact results_rowT Tryd.results10 _ _ w.heap.size _ _ (0, 0) _ _ rfl (set3 HRes1.out) Tryd.underlying27 rfl hI rfl
    · have hk5 : k ≤ 5 := by omega
      clear hk hk6
      have hws := word_size (k : Int)
      have hpi := pre_iff t (Na.word k)
      have hpr := fun r (h : strL t = strL (Na.word k) ++ 58 :: r) => pre_rest h
      have HWk := Lib.hid (HWd.out k (by omega))
      have HHit : Hid (Hit9 t k → ∃ r, strL t = strL (Na.word k) ++ 58 :: r) := Lib.hid (fun ⟨r, h, _⟩ => ⟨r, h⟩)
      have HPcd : Hid (∀ r, strL t = strL (Na.word k) ++ 58 :: r → strL (t.extract ((Na.word k).size + 1) t.size) = r) := Lib.hid hpr
      generalize hwkE : Na.word (k : Int) = wk at *
      have HWkE := Lib.hid hwkE
      clear hwkE
      have hwz : (wk ++ ⟨#[58]⟩ : ByteArray).size = wk.size + 1 := by rw [ByteArray.size_append]; rfl
      have hza : wk.size + 1 ≤ 9223372036854775807 := by omega
      have hzb : wk.size ≤ 9223372036854775806 := by omega
      have HPi := Lib.hid hpi
      have HWz := Lib.hid hwz
      clear hpi hpr
      by_cases hsz : t.size < wk.size + 1
      · have HNo : Hid (∀ j : Nat, 1 ≤ j → j < k + 1 → ¬ Hit9 t j) := Lib.hid (fun j hj1 hj2 => by
          rcases Nat.lt_or_ge j k with h | h
          · exact H0.out j hj1 h
          · obtain rfl : j = k := by omega
            intro hh
            have := (HPi.out.1 (HHit.out hh)).1
            omega)
        have hsz' : (t.size : Int) < (wk.size : Int) + 1 := by omega
        clear hsz
        go_wp2_with (go_at_call 26; refine (HWk.out _).mono ?_; rintro e w2 ⟨rfl, hg2⟩; have HRes2 := Lib.hid (hold_blk HRes1.out hg2); have HG2 := Lib.hid (grown_trans HG1.out hg2); clear hg2)
        go_roundw
        case rel => exact ⟨k + 1, by omega, by omega, by go_num, HG2.out, HRes2.out, HNo.out⟩
        case measure => simp [intOf]; omega
      · have hsz' : ¬ (t.size : Int) < (wk.size : Int) + 1 := by omega
        have hb1 : (0 : Int) ≤ (wk.size : Int) + 1 := by omega
        have hb2 : (wk.size : Int) + 1 ≤ (t.size : Int) := by omega
        have hb3 : ((wk.size : Int) + 1).toNat = wk.size + 1 := by omega
        by_cases hpre : t.extract 0 (wk.size + 1) = wk ++ ⟨#[58]⟩
        · obtain ⟨r0, hr0⟩ := HPi.out.2 ⟨by omega, hpre⟩
          have hrest := HPcd.out r0 hr0
          have hq1 : ((t.extract 0 (wk.size + 1)).toList == (wk ++ ⟨#[58]⟩ : ByteArray).toList) = true := by rw [beq_iff_eq, hpre]
          have hrl : (t.extract (wk.size + 1) t.size).size ≤ 900 := by rw [ByteArray.size_extract]; omega
          have HPc1 : Hid (∀ r, strL t = strL wk ++ 58 :: r → r = r0) := Lib.hid (fun r h => by rw [← HPcd.out r h, hrest])
          clear HPcd HPi HHit hpre hsz
          go_wp2_with (go_at_call 26; refine (HWk.out _).mono ?_; rintro e w2 ⟨rfl, hg2⟩; have HRes2 := Lib.hid (hold_blk HRes1.out hg2); have HG2 := Lib.hid (grown_trans HG1.out hg2); clear hg2)
          clear hq1
          generalize t.extract 0 (wk.size + 1) = pfx at *
          generalize t.extract (wk.size + 1) t.size = nm at *
          have hb := alloc_at w2 (.cells #[.int .i64 (k : Int), .string ⟨#[]⟩, .string nm] 27)
          have HRow := Lib.hid hb
          have HRes := Lib.hid (alloc_keep (o := .cells #[.int .i64 (k : Int), .string ⟨#[]⟩, .string nm] 27) HRes2.out)
          have HG := Lib.hid (grown_alloc HG2.out (.cells #[.int .i64 (k : Int), .string ⟨#[]⟩, .string nm] 27))
          have HSb := Lib.hid HG2.out.size
          have HRn := Lib.hid hrest
          obtain ⟨sb, hsb⟩ : ∃ sb, sb = w2.heap.size := ⟨_, rfl⟩
          have HSb2 : Hid (sb = w2.heap.size) := Lib.hid hsb
          rw [← hsb] at HRow HSb hb ⊢
          generalize (w2.alloc (.cells #[.int .i64 (k : Int), .string ⟨#[]⟩, .string nm] 27)) = w3 at *
          clear hsb hr0 hrest hsz' hb1 hb2 hb3 hwz hza hzb
          by_cases hkE : k = 2
          · have hk2 : ((k : Int) == 2) = true := by rw [hkE]; rfl
            have HKE := Lib.hid hkE
            clear hkE
            have HE1 := Lib.hid (cell_blk hb 2 rfl)
            clear hb
            go_loopw [7] (fun i w4 => ∃ n : Nat, n ≤ nm.size ∧ i = .int .i64 (n : Int) ∧ w4 = w3 ∧ ∀ j : Nat, j < n → (strL nm).getD j 0 ≠ 47) (fun i _ => nm.size - (intOf i).toNat)
            case atStart => exact ⟨0, by omega, rfl, rfl, fun j hj => absurd hj (Nat.not_lt_zero _)⟩
            case round =>
              obtain ⟨n, hn, rfl, rfl, hno⟩ := hrel
              have HNs := Lib.hid hno
              clear hno
              have c2 := HE1.out
              by_cases hnn : n < nm.size
              · have ix := HIx.out nm wr n hnn
                by_cases hx : (strL nm).getD n 0 = 47
                · rw [hx] at ix
                  have HPc : Hid (∀ r, strL t = strL wk ++ 58 :: r → Na.pc (k : Int) r = ⟨(k : Int), nm.extract 0 n, nm.extract (n + 1) nm.size⟩) := Lib.hid (fun r h => by
                    rw [HPc1.out r h, ← HRn.out, HKE.out]
                    exact pc_slash nm n hnn hx HNs.out)
                  have HszB : Hid ((nm.extract 0 n).size ≤ 1000 ∧ (nm.extract (n + 1) nm.size).size ≤ 1000) := Lib.hid (by rw [ByteArray.size_extract, ByteArray.size_extract]; omega)
                  have HszA : Hid ((nm.extract 0 n).size ≤ 1000000 ∧ (nm.extract (n + 1) nm.size).size ≤ 1000000) := Lib.hid (by rw [ByteArray.size_extract, ByteArray.size_extract]; omega)
                  have d1 := cell_blk HRow.out 1 rfl
                  have f1 := free_blk HRow.out 1
                  have f2 := free_blk HRow.out 2
                  have n0 : (0 : Int) ≤ (n : Int) := by omega
                  have n1 : (n : Int) ≤ (nm.size : Int) := by omega
                  have n2 : (n : Int) + 1 ≤ (nm.size : Int) := by omega
                  have n3 : (0 : Int) ≤ (n : Int) + 1 := by omega
                  have n4 : wrap64 ((n : Int) + 1) = (n : Int) + 1 := by unfold wrap64; omega
                  have n5 : ((n : Int) + 1).toNat = n + 1 := by omega
                  go_wp2
                  go_region
                  obtain ⟨w5, hw5⟩ : ∃ W : World, W = ((wr.setCell ⟨sb, 1, none⟩ (.string (nm.extract 0 n))).setCell ⟨sb, 2, none⟩ (.string (nm.extract (n + 1) nm.size))).drew := ⟨_, rfl⟩
                  rw [← hw5]
                  have HRow5 : Hid (w5.heap[sb]? = some (.cells #[.int .i64 (k : Int), .string (nm.extract 0 n), .string (nm.extract (n + 1) nm.size)] 27 (0, 0))) := Lib.hid (by
                    rw [hw5]
                    show ((wr.setCell ⟨sb, 1, none⟩ (.string (nm.extract 0 n))).setCell ⟨sb, 2, none⟩ (.string (nm.extract (n + 1) nm.size))).heap[sb]? = _
                    have := setCell_heap (i := 2) (setCell_heap (i := 1) HRow.out (.string (nm.extract 0 n))) (.string (nm.extract (n + 1) nm.size))
                    simpa using this)
                  have HRes5 : Hid (w5.heap[w.heap.size]? = some (.cells #[.int .i64 0, .string ⟨#[]⟩, .string ⟨#[]⟩] 27 (0, 0))) := Lib.hid (by
                    rw [hw5]
                    show ((wr.setCell ⟨sb, 1, none⟩ (.string (nm.extract 0 n))).setCell ⟨sb, 2, none⟩ (.string (nm.extract (n + 1) nm.size))).heap[w.heap.size]? = _
                    have hne : w.heap.size ≠ sb := by have := HSb.out; have h2 := blk_lt HRes2.out; have h3 := HSb2.out; omega
                    rw [Below.heap_setCell _ _ _ _ hne, Below.heap_setCell _ _ _ _ hne]
                    exact HRes.out)
                  have HG5 : Hid (w.grownBy w5 none) := Lib.hid (by
                    rw [hw5]
                    exact grown_drewN (grown_set (grown_set HG.out (.inl HSb.out) _) (.inl HSb.out) _) 1)
                  clear HRow HRes HG hw5 d1 f1 f2 n0 n1 n2 n3 n4 n5 HE1 c2 ix HIx hx HNs
                  have HRow := HRow5
                  have HRes := HRes5
                  have HG := HG5
                  clear HRow5 HRes5 HG5
                  generalize nm.extract 0 n = sp9 at *
                  generalize nm.extract (n + 1) nm.size = nm9 at *
                  have HRt := Lib.hid (fun W => refRight9_any ⟨(k : Int), sp9, nm9⟩ ⟨by show (-9223372036854775808 : Int) ≤ k; omega, by show (k : Int) ≤ 9223372036854775807; omega⟩ (show sp9.size ≤ 1000000 from HszA.out.1) (show nm9.size ≤ 1000000 from HszA.out.2) W)
                  unfold Na.val at HRt
                  simp only at HRt
                  cases hr : Na.right ⟨(k : Int), sp9, nm9⟩ with
                  | false =>
                    rw [hr] at HRt
                    have HNo : Hid (∀ j : Nat, 1 ≤ j → j < k + 1 → ¬ Hit9 t j) := Lib.hid (fun j hj1 hj2 => by
                      rcases Nat.lt_or_ge j k with h | h
                      · exact H0.out j hj1 h
                      · obtain rfl : j = k := by omega
                        rintro ⟨r, h1, h2, _⟩
                        rw [HWkE.out] at h1
                        rw [HPc.out r h1, hr] at h2
                        exact absurd h2 (by decide))
                    clear hr
                    go_wp2_with (first
                      | (refine wpList_load_row (by rfl) 27 (.tmp 6) (by rfl) sb (by rfl) 27 #[.int .i64 (k : Int), .string sp9, .string nm9] (0, 0) _ HRow.out Tryd.underlying27 rfl hI ?_)
                      | (go_at_call 21; with_reducible refine (HRt.out _).mono ?_; rintro e wA ⟨rfl, hgA⟩; have HRowA := Lib.hid (hold_blk HRow.out hgA); have HResA := Lib.hid (hold_blk HRes.out hgA); have HGA := Lib.hid (grown_trans HG.out hgA); have y0 := free_blk HResA.out 0; have y1 := free_blk HResA.out 1; have y2 := free_blk HResA.out 2; have z0 := cell_blk HResA.out 0 rfl; have z1 := cell_blk HResA.out 1 rfl; have z2 := cell_blk HResA.out 2 rfl; clear hgA)
                      | (refine wpList_load_row (by rfl) 27 (.tmp 6) (by rfl) sb (by rfl) 27 #[.int .i64 (k : Int), .string sp9, .string nm9] (0, 0) _ HRowA.out Tryd.underlying27 rfl hI ?_)
                      | (refine wpList_load_rowG (by rfl) 27 (.tmp 6) (by rfl) sb (by rfl) 27 #[.int .i64 (k : Int), .string sp9, .string nm9] (0, 0) _ HRowA.out Tryd.underlying27 rfl hI ?_)
                      | (go_at_call 27; with_reducible refine (HTx.out _).mono ?_; rintro e wB ⟨rfl, hgB⟩; have HRowB := Lib.hid (hold_blk HRowA.out hgB); have HResB := Lib.hid (hold_blk HResA.out hgB); have HGB := Lib.hid (grown_trans HGA.out hgB); have y0 := free_blk HResB.out 0; have y1 := free_blk HResB.out 1; have y2 := free_blk HResB.out 2; have z0 := cell_blk HResB.out 0 rfl; have z1 := cell_blk HResB.out 1 rfl; have z2 := cell_blk HResB.out 2 rfl; clear hgB)
                      | (refine wpList_load_row (by rfl) 27 (.tmp 6) (by rfl) sb (by rfl) 27 #[.int .i64 (k : Int), .string sp9, .string nm9] (0, 0) _ HRowB.out Tryd.underlying27 rfl hI ?_))
                    go_roundw
                    case rel => exact ⟨k + 1, by omega, by omega, by go_num, HGA.out, HResA.out, HNo.out⟩
                    case measure => simp [intOf]; omega
                  | true =>
                    rw [hr] at HRt
                    have HTx := Lib.hid (fun W => refText9_any ⟨(k : Int), sp9, nm9⟩ hr (show sp9.size ≤ 1000 from HszB.out.1) (show nm9.size ≤ 1000 from HszB.out.2) W)
                    unfold Na.val at HTx
                    simp only at HTx
                    by_cases htx : Na.text ⟨(k : Int), sp9, nm9⟩ = t
                    · have HY := Lib.hid (RP9.yes hr htx)
                      unfold Na.val at HY
                      simp only at HY
                      have htq : ((Na.text ⟨(k : Int), sp9, nm9⟩).toList == t.toList) = true := by rw [beq_iff_eq, htx]
                      generalize Na.text ⟨(k : Int), sp9, nm9⟩ = T9 at *
                      clear hr htx
                      go_wp2_with (first
                        | (refine wpList_load_row (by rfl) 27 (.tmp 6) (by rfl) sb (by rfl) 27 #[.int .i64 (k : Int), .string sp9, .string nm9] (0, 0) _ HRow.out Tryd.underlying27 rfl hI ?_)
                        | (go_at_call 21; with_reducible refine (HRt.out _).mono ?_; rintro e wA ⟨rfl, hgA⟩; have HRowA := Lib.hid (hold_blk HRow.out hgA); have HResA := Lib.hid (hold_blk HRes.out hgA); have HGA := Lib.hid (grown_trans HG.out hgA); have y0 := free_blk HResA.out 0; have y1 := free_blk HResA.out 1; have y2 := free_blk HResA.out 2; have z0 := cell_blk HResA.out 0 rfl; have z1 := cell_blk HResA.out 1 rfl; have z2 := cell_blk HResA.out 2 rfl; clear hgA)
                        | (refine wpList_load_row (by rfl) 27 (.tmp 6) (by rfl) sb (by rfl) 27 #[.int .i64 (k : Int), .string sp9, .string nm9] (0, 0) _ HRowA.out Tryd.underlying27 rfl hI ?_)
                        | (refine wpList_load_rowG (by rfl) 27 (.tmp 6) (by rfl) sb (by rfl) 27 #[.int .i64 (k : Int), .string sp9, .string nm9] (0, 0) _ HRowA.out Tryd.underlying27 rfl hI ?_)
                        | (go_at_call 27; with_reducible refine (HTx.out _).mono ?_; rintro e wB ⟨rfl, hgB⟩; have HRowB := Lib.hid (hold_blk HRowA.out hgB); have HResB := Lib.hid (hold_blk HResA.out hgB); have HGB := Lib.hid (grown_trans HGA.out hgB); have y0 := free_blk HResB.out 0; have y1 := free_blk HResB.out 1; have y2 := free_blk HResB.out 2; have z0 := cell_blk HResB.out 0 rfl; have z1 := cell_blk HResB.out 1 rfl; have z2 := cell_blk HResB.out 2 rfl; clear hgB)
                        | (refine wpList_load_row (by rfl) 27 (.tmp 6) (by rfl) sb (by rfl) 27 #[.int .i64 (k : Int), .string sp9, .string nm9] (0, 0) _ HRowB.out Tryd.underlying27 rfl hI ?_))
                      refine bodyPost_ret (v := .tuple #[.agg #[.int .i64 (k : Int), .string sp9, .string nm9], .bool true]) ?_ rfl ⟨HY.out, grown_set (grown_set (grown_set HGB.out (.inl (Nat.le_refl _)) _) (.inl (Nat.le_refl _)) _) (.inl (Nat.le_refl _)) _⟩
                      exact results_rowT Tryd.results10 _ _ w.heap.size _ _ (0, 0) _ _ rfl (set3 HResB.out) Tryd.underlying27 rfl hI rfl
                    · have htq : ((Na.text ⟨(k : Int), sp9, nm9⟩).toList == t.toList) = false := by rw [beq_eq_false_iff_ne]; exact fun h => htx (Na.toList_inj h)
                      have HNo : Hid (∀ j : Nat, 1 ≤ j → j < k + 1 → ¬ Hit9 t j) := Lib.hid (fun j hj1 hj2 => by
                        rcases Nat.lt_or_ge j k with h | h
                        · exact H0.out j hj1 h
                        · obtain rfl : j = k := by omega
                          rintro ⟨r, h1, _, h3⟩
                          rw [HWkE.out] at h1
                          rw [HPc.out r h1] at h3
                          exact htx h3)
                      generalize Na.text ⟨(k : Int), sp9, nm9⟩ = T9 at *
                      clear hr htx
                      go_wp2_with (first
                        | (refine wpList_load_row (by rfl) 27 (.tmp 6) (by rfl) sb (by rfl) 27 #[.int .i64 (k : Int), .string sp9, .string nm9] (0, 0) _ HRow.out Tryd.underlying27 rfl hI ?_)
                        | (go_at_call 21; with_reducible refine (HRt.out _).mono ?_; rintro e wA ⟨rfl, hgA⟩; have HRowA := Lib.hid (hold_blk HRow.out hgA); have HResA := Lib.hid (hold_blk HRes.out hgA); have HGA := Lib.hid (grown_trans HG.out hgA); have y0 := free_blk HResA.out 0; have y1 := free_blk HResA.out 1; have y2 := free_blk HResA.out 2; have z0 := cell_blk HResA.out 0 rfl; have z1 := cell_blk HResA.out 1 rfl; have z2 := cell_blk HResA.out 2 rfl; clear hgA)
                        | (refine wpList_load_row (by rfl) 27 (.tmp 6) (by rfl) sb (by rfl) 27 #[.int .i64 (k : Int), .string sp9, .string nm9] (0, 0) _ HRowA.out Tryd.underlying27 rfl hI ?_)
                        | (refine wpList_load_rowG (by rfl) 27 (.tmp 6) (by rfl) sb (by rfl) 27 #[.int .i64 (k : Int), .string sp9, .string nm9] (0, 0) _ HRowA.out Tryd.underlying27 rfl hI ?_)
                        | (go_at_call 27; with_reducible refine (HTx.out _).mono ?_; rintro e wB ⟨rfl, hgB⟩; have HRowB := Lib.hid (hold_blk HRowA.out hgB); have HResB := Lib.hid (hold_blk HResA.out hgB); have HGB := Lib.hid (grown_trans HGA.out hgB); have y0 := free_blk HResB.out 0; have y1 := free_blk HResB.out 1; have y2 := free_blk HResB.out 2; have z0 := cell_blk HResB.out 0 rfl; have z1 := cell_blk HResB.out 1 rfl; have z2 := cell_blk HResB.out 2 rfl; clear hgB)
                        | (refine wpList_load_row (by rfl) 27 (.tmp 6) (by rfl) sb (by rfl) 27 #[.int .i64 (k : Int), .string sp9, .string nm9] (0, 0) _ HRowB.out Tryd.underlying27 rfl hI ?_))
                      go_roundw
                      case rel => exact ⟨k + 1, by omega, by omega, by go_num, HGB.out, HResB.out, HNo.out⟩
                      case measure => simp [intOf]; omega
                · have hxb : ((((strL nm).getD n 0 : Nat) : Int) == 47) = false := by rw [beq_eq_false_iff_ne]; omega
                  have HN2 : Hid (∀ j : Nat, j < n + 1 → (strL nm).getD j 0 ≠ 47) := Lib.hid (fun j hj => by
                    rcases Nat.lt_or_ge j n with h | h
                    · exact HNs.out j h
                    · obtain rfl : j = n := by omega
                      exact hx)
                  generalize (strL nm).getD n 0 = x at *
                  clear hx
                  go_wp2
                  go_roundw
                  case rel => exact ⟨n + 1, by omega, by go_num, trivial, HN2.out⟩
                  case measure => simp [intOf]; omega
              · obtain rfl : n = nm.size := by omega
                have HPc : Hid (∀ r, strL t = strL wk ++ 58 :: r → Na.pc (k : Int) r = ⟨(k : Int), ⟨#[]⟩, nm⟩) := Lib.hid (fun r h => by
                  rw [HPc1.out r h, ← HRn.out]
                  exact pc_none nm k (fun _ => HNs.out))
                have HszB : Hid ((⟨#[]⟩ : ByteArray).size ≤ 1000 ∧ nm.size ≤ 1000) := Lib.hid ⟨by decide, by omega⟩
                have HszA : Hid ((⟨#[]⟩ : ByteArray).size ≤ 1000000 ∧ nm.size ≤ 1000000) := Lib.hid ⟨by decide, by omega⟩
                clear HIx
                have HRt := Lib.hid (fun W => refRight9_any ⟨(k : Int), (⟨#[]⟩ : ByteArray), nm⟩ ⟨by show (-9223372036854775808 : Int) ≤ k; omega, by show (k : Int) ≤ 9223372036854775807; omega⟩ (show (⟨#[]⟩ : ByteArray).size ≤ 1000000 from HszA.out.1) (show nm.size ≤ 1000000 from HszA.out.2) W)
                unfold Na.val at HRt
                simp only at HRt
                cases hr : Na.right ⟨(k : Int), (⟨#[]⟩ : ByteArray), nm⟩ with
                | false =>
                  rw [hr] at HRt
                  have HNo : Hid (∀ j : Nat, 1 ≤ j → j < k + 1 → ¬ Hit9 t j) := Lib.hid (fun j hj1 hj2 => by
                    rcases Nat.lt_or_ge j k with h | h
                    · exact H0.out j hj1 h
                    · obtain rfl : j = k := by omega
                      rintro ⟨r, h1, h2, _⟩
                      rw [HWkE.out] at h1
                      rw [HPc.out r h1, hr] at h2
                      exact absurd h2 (by decide))
                  clear hr
                  go_wp2_with (first
                    | (refine wpList_load_row (by rfl) 27 (.tmp 6) (by rfl) sb (by rfl) 27 #[.int .i64 (k : Int), .string (⟨#[]⟩ : ByteArray), .string nm] (0, 0) _ HRow.out Tryd.underlying27 rfl hI ?_)
                    | (go_at_call 21; with_reducible refine (HRt.out _).mono ?_; rintro e wA ⟨rfl, hgA⟩; have HRowA := Lib.hid (hold_blk HRow.out hgA); have HResA := Lib.hid (hold_blk HRes.out hgA); have HGA := Lib.hid (grown_trans HG.out hgA); have y0 := free_blk HResA.out 0; have y1 := free_blk HResA.out 1; have y2 := free_blk HResA.out 2; have z0 := cell_blk HResA.out 0 rfl; have z1 := cell_blk HResA.out 1 rfl; have z2 := cell_blk HResA.out 2 rfl; clear hgA)
                    | (refine wpList_load_row (by rfl) 27 (.tmp 6) (by rfl) sb (by rfl) 27 #[.int .i64 (k : Int), .string (⟨#[]⟩ : ByteArray), .string nm] (0, 0) _ HRowA.out Tryd.underlying27 rfl hI ?_)
                    | (refine wpList_load_rowG (by rfl) 27 (.tmp 6) (by rfl) sb (by rfl) 27 #[.int .i64 (k : Int), .string (⟨#[]⟩ : ByteArray), .string nm] (0, 0) _ HRowA.out Tryd.underlying27 rfl hI ?_)
                    | (go_at_call 27; with_reducible refine (HTx.out _).mono ?_; rintro e wB ⟨rfl, hgB⟩; have HRowB := Lib.hid (hold_blk HRowA.out hgB); have HResB := Lib.hid (hold_blk HResA.out hgB); have HGB := Lib.hid (grown_trans HGA.out hgB); have y0 := free_blk HResB.out 0; have y1 := free_blk HResB.out 1; have y2 := free_blk HResB.out 2; have z0 := cell_blk HResB.out 0 rfl; have z1 := cell_blk HResB.out 1 rfl; have z2 := cell_blk HResB.out 2 rfl; clear hgB)
                    | (refine wpList_load_row (by rfl) 27 (.tmp 6) (by rfl) sb (by rfl) 27 #[.int .i64 (k : Int), .string (⟨#[]⟩ : ByteArray), .string nm] (0, 0) _ HRowB.out Tryd.underlying27 rfl hI ?_))
                  go_roundw
                  case rel => exact ⟨k + 1, by omega, by omega, by go_num, HGA.out, HResA.out, HNo.out⟩
                  case measure => simp [intOf]; omega
                | true =>
                  rw [hr] at HRt
                  have HTx := Lib.hid (fun W => refText9_any ⟨(k : Int), (⟨#[]⟩ : ByteArray), nm⟩ hr (show (⟨#[]⟩ : ByteArray).size ≤ 1000 from HszB.out.1) (show nm.size ≤ 1000 from HszB.out.2) W)
                  unfold Na.val at HTx
                  simp only at HTx
                  by_cases htx : Na.text ⟨(k : Int), (⟨#[]⟩ : ByteArray), nm⟩ = t
                  · have HY := Lib.hid (RP9.yes hr htx)
                    unfold Na.val at HY
                    simp only at HY
                    have htq : ((Na.text ⟨(k : Int), (⟨#[]⟩ : ByteArray), nm⟩).toList == t.toList) = true := by rw [beq_iff_eq, htx]
                    generalize Na.text ⟨(k : Int), (⟨#[]⟩ : ByteArray), nm⟩ = T9 at *
                    clear hr htx
                    go_wp2_with (first
                      | (refine wpList_load_row (by rfl) 27 (.tmp 6) (by rfl) sb (by rfl) 27 #[.int .i64 (k : Int), .string (⟨#[]⟩ : ByteArray), .string nm] (0, 0) _ HRow.out Tryd.underlying27 rfl hI ?_)
                      | (go_at_call 21; with_reducible refine (HRt.out _).mono ?_; rintro e wA ⟨rfl, hgA⟩; have HRowA := Lib.hid (hold_blk HRow.out hgA); have HResA := Lib.hid (hold_blk HRes.out hgA); have HGA := Lib.hid (grown_trans HG.out hgA); have y0 := free_blk HResA.out 0; have y1 := free_blk HResA.out 1; have y2 := free_blk HResA.out 2; have z0 := cell_blk HResA.out 0 rfl; have z1 := cell_blk HResA.out 1 rfl; have z2 := cell_blk HResA.out 2 rfl; clear hgA)
                      | (refine wpList_load_row (by rfl) 27 (.tmp 6) (by rfl) sb (by rfl) 27 #[.int .i64 (k : Int), .string (⟨#[]⟩ : ByteArray), .string nm] (0, 0) _ HRowA.out Tryd.underlying27 rfl hI ?_)
                      | (refine wpList_load_rowG (by rfl) 27 (.tmp 6) (by rfl) sb (by rfl) 27 #[.int .i64 (k : Int), .string (⟨#[]⟩ : ByteArray), .string nm] (0, 0) _ HRowA.out Tryd.underlying27 rfl hI ?_)
                      | (go_at_call 27; with_reducible refine (HTx.out _).mono ?_; rintro e wB ⟨rfl, hgB⟩; have HRowB := Lib.hid (hold_blk HRowA.out hgB); have HResB := Lib.hid (hold_blk HResA.out hgB); have HGB := Lib.hid (grown_trans HGA.out hgB); have y0 := free_blk HResB.out 0; have y1 := free_blk HResB.out 1; have y2 := free_blk HResB.out 2; have z0 := cell_blk HResB.out 0 rfl; have z1 := cell_blk HResB.out 1 rfl; have z2 := cell_blk HResB.out 2 rfl; clear hgB)
                      | (refine wpList_load_row (by rfl) 27 (.tmp 6) (by rfl) sb (by rfl) 27 #[.int .i64 (k : Int), .string (⟨#[]⟩ : ByteArray), .string nm] (0, 0) _ HRowB.out Tryd.underlying27 rfl hI ?_))
                    refine bodyPost_ret (v := .tuple #[.agg #[.int .i64 (k : Int), .string (⟨#[]⟩ : ByteArray), .string nm], .bool true]) ?_ rfl ⟨HY.out, grown_set (grown_set (grown_set HGB.out (.inl (Nat.le_refl _)) _) (.inl (Nat.le_refl _)) _) (.inl (Nat.le_refl _)) _⟩
                    exact results_rowT Tryd.results10 _ _ w.heap.size _ _ (0, 0) _ _ rfl (set3 HResB.out) Tryd.underlying27 rfl hI rfl
                  · have htq : ((Na.text ⟨(k : Int), (⟨#[]⟩ : ByteArray), nm⟩).toList == t.toList) = false := by rw [beq_eq_false_iff_ne]; exact fun h => htx (Na.toList_inj h)
                    have HNo : Hid (∀ j : Nat, 1 ≤ j → j < k + 1 → ¬ Hit9 t j) := Lib.hid (fun j hj1 hj2 => by
                      rcases Nat.lt_or_ge j k with h | h
                      · exact H0.out j hj1 h
                      · obtain rfl : j = k := by omega
                        rintro ⟨r, h1, _, h3⟩
                        rw [HWkE.out] at h1
                        rw [HPc.out r h1] at h3
                        exact htx h3)
                    generalize Na.text ⟨(k : Int), (⟨#[]⟩ : ByteArray), nm⟩ = T9 at *
                    clear hr htx
                    go_wp2_with (first
                      | (refine wpList_load_row (by rfl) 27 (.tmp 6) (by rfl) sb (by rfl) 27 #[.int .i64 (k : Int), .string (⟨#[]⟩ : ByteArray), .string nm] (0, 0) _ HRow.out Tryd.underlying27 rfl hI ?_)
                      | (go_at_call 21; with_reducible refine (HRt.out _).mono ?_; rintro e wA ⟨rfl, hgA⟩; have HRowA := Lib.hid (hold_blk HRow.out hgA); have HResA := Lib.hid (hold_blk HRes.out hgA); have HGA := Lib.hid (grown_trans HG.out hgA); have y0 := free_blk HResA.out 0; have y1 := free_blk HResA.out 1; have y2 := free_blk HResA.out 2; have z0 := cell_blk HResA.out 0 rfl; have z1 := cell_blk HResA.out 1 rfl; have z2 := cell_blk HResA.out 2 rfl; clear hgA)
                      | (refine wpList_load_row (by rfl) 27 (.tmp 6) (by rfl) sb (by rfl) 27 #[.int .i64 (k : Int), .string (⟨#[]⟩ : ByteArray), .string nm] (0, 0) _ HRowA.out Tryd.underlying27 rfl hI ?_)
                      | (refine wpList_load_rowG (by rfl) 27 (.tmp 6) (by rfl) sb (by rfl) 27 #[.int .i64 (k : Int), .string (⟨#[]⟩ : ByteArray), .string nm] (0, 0) _ HRowA.out Tryd.underlying27 rfl hI ?_)
                      | (go_at_call 27; with_reducible refine (HTx.out _).mono ?_; rintro e wB ⟨rfl, hgB⟩; have HRowB := Lib.hid (hold_blk HRowA.out hgB); have HResB := Lib.hid (hold_blk HResA.out hgB); have HGB := Lib.hid (grown_trans HGA.out hgB); have y0 := free_blk HResB.out 0; have y1 := free_blk HResB.out 1; have y2 := free_blk HResB.out 2; have z0 := cell_blk HResB.out 0 rfl; have z1 := cell_blk HResB.out 1 rfl; have z2 := cell_blk HResB.out 2 rfl; clear hgB)
                      | (refine wpList_load_row (by rfl) 27 (.tmp 6) (by rfl) sb (by rfl) 27 #[.int .i64 (k : Int), .string (⟨#[]⟩ : ByteArray), .string nm] (0, 0) _ HRowB.out Tryd.underlying27 rfl hI ?_))
                    go_roundw
                    case rel => exact ⟨k + 1, by omega, by omega, by go_num, HGB.out, HResB.out, HNo.out⟩
                    case measure => simp [intOf]; omega
          · have hk2 : ((k : Int) == 2) = false := by rw [beq_eq_false_iff_ne]; omega
            have HPc : Hid (∀ r, strL t = strL wk ++ 58 :: r → Na.pc (k : Int) r = ⟨(k : Int), ⟨#[]⟩, nm⟩) := Lib.hid (fun r h => by
              rw [HPc1.out r h, ← HRn.out]
              exact pc_none nm k (fun h => absurd h hkE))
            have HszB : Hid ((⟨#[]⟩ : ByteArray).size ≤ 1000 ∧ nm.size ≤ 1000) := Lib.hid ⟨by decide, by omega⟩
            have HszA : Hid ((⟨#[]⟩ : ByteArray).size ≤ 1000000 ∧ nm.size ≤ 1000000) := Lib.hid ⟨by decide, by omega⟩
            clear HIx hkE hb
            go_loopw [7] (fun i w4 => i = .int .i64 0 ∧ w4 = w3) (fun _ _ => 0)
            case atStart => exact ⟨rfl, rfl⟩
            case round =>
              obtain ⟨rfl, rfl⟩ := hrel
              have HRt := Lib.hid (fun W => refRight9_any ⟨(k : Int), (⟨#[]⟩ : ByteArray), nm⟩ ⟨by show (-9223372036854775808 : Int) ≤ k; omega, by show (k : Int) ≤ 9223372036854775807; omega⟩ (show (⟨#[]⟩ : ByteArray).size ≤ 1000000 from HszA.out.1) (show nm.size ≤ 1000000 from HszA.out.2) W)
              unfold Na.val at HRt
              simp only at HRt
              cases hr : Na.right ⟨(k : Int), (⟨#[]⟩ : ByteArray), nm⟩ with
              | false =>
                rw [hr] at HRt
                have HNo : Hid (∀ j : Nat, 1 ≤ j → j < k + 1 → ¬ Hit9 t j) := Lib.hid (fun j hj1 hj2 => by
                  rcases Nat.lt_or_ge j k with h | h
                  · exact H0.out j hj1 h
                  · obtain rfl : j = k := by omega
                    rintro ⟨r, h1, h2, _⟩
                    rw [HWkE.out] at h1
                    rw [HPc.out r h1, hr] at h2
                    exact absurd h2 (by decide))
                clear hr
                go_wp2_with (first
                  | (refine wpList_load_row (by rfl) 27 (.tmp 6) (by rfl) sb (by rfl) 27 #[.int .i64 (k : Int), .string (⟨#[]⟩ : ByteArray), .string nm] (0, 0) _ HRow.out Tryd.underlying27 rfl hI ?_)
                  | (go_at_call 21; with_reducible refine (HRt.out _).mono ?_; rintro e wA ⟨rfl, hgA⟩; have HRowA := Lib.hid (hold_blk HRow.out hgA); have HResA := Lib.hid (hold_blk HRes.out hgA); have HGA := Lib.hid (grown_trans HG.out hgA); have y0 := free_blk HResA.out 0; have y1 := free_blk HResA.out 1; have y2 := free_blk HResA.out 2; have z0 := cell_blk HResA.out 0 rfl; have z1 := cell_blk HResA.out 1 rfl; have z2 := cell_blk HResA.out 2 rfl; clear hgA)
                  | (refine wpList_load_row (by rfl) 27 (.tmp 6) (by rfl) sb (by rfl) 27 #[.int .i64 (k : Int), .string (⟨#[]⟩ : ByteArray), .string nm] (0, 0) _ HRowA.out Tryd.underlying27 rfl hI ?_)
                  | (refine wpList_load_rowG (by rfl) 27 (.tmp 6) (by rfl) sb (by rfl) 27 #[.int .i64 (k : Int), .string (⟨#[]⟩ : ByteArray), .string nm] (0, 0) _ HRowA.out Tryd.underlying27 rfl hI ?_)
                  | (go_at_call 27; with_reducible refine (HTx.out _).mono ?_; rintro e wB ⟨rfl, hgB⟩; have HRowB := Lib.hid (hold_blk HRowA.out hgB); have HResB := Lib.hid (hold_blk HResA.out hgB); have HGB := Lib.hid (grown_trans HGA.out hgB); have y0 := free_blk HResB.out 0; have y1 := free_blk HResB.out 1; have y2 := free_blk HResB.out 2; have z0 := cell_blk HResB.out 0 rfl; have z1 := cell_blk HResB.out 1 rfl; have z2 := cell_blk HResB.out 2 rfl; clear hgB)
                  | (refine wpList_load_row (by rfl) 27 (.tmp 6) (by rfl) sb (by rfl) 27 #[.int .i64 (k : Int), .string (⟨#[]⟩ : ByteArray), .string nm] (0, 0) _ HRowB.out Tryd.underlying27 rfl hI ?_))
                go_roundw
                case rel => exact ⟨k + 1, by omega, by omega, by go_num, HGA.out, HResA.out, HNo.out⟩
                case measure => simp [intOf]; omega
              | true =>
                rw [hr] at HRt
                have HTx := Lib.hid (fun W => refText9_any ⟨(k : Int), (⟨#[]⟩ : ByteArray), nm⟩ hr (show (⟨#[]⟩ : ByteArray).size ≤ 1000 from HszB.out.1) (show nm.size ≤ 1000 from HszB.out.2) W)
                unfold Na.val at HTx
                simp only at HTx
                by_cases htx : Na.text ⟨(k : Int), (⟨#[]⟩ : ByteArray), nm⟩ = t
                · have HY := Lib.hid (RP9.yes hr htx)
                  unfold Na.val at HY
                  simp only at HY
                  have htq : ((Na.text ⟨(k : Int), (⟨#[]⟩ : ByteArray), nm⟩).toList == t.toList) = true := by rw [beq_iff_eq, htx]
                  generalize Na.text ⟨(k : Int), (⟨#[]⟩ : ByteArray), nm⟩ = T9 at *
                  clear hr htx
                  go_wp2_with (first
                    | (refine wpList_load_row (by rfl) 27 (.tmp 6) (by rfl) sb (by rfl) 27 #[.int .i64 (k : Int), .string (⟨#[]⟩ : ByteArray), .string nm] (0, 0) _ HRow.out Tryd.underlying27 rfl hI ?_)
                    | (go_at_call 21; with_reducible refine (HRt.out _).mono ?_; rintro e wA ⟨rfl, hgA⟩; have HRowA := Lib.hid (hold_blk HRow.out hgA); have HResA := Lib.hid (hold_blk HRes.out hgA); have HGA := Lib.hid (grown_trans HG.out hgA); have y0 := free_blk HResA.out 0; have y1 := free_blk HResA.out 1; have y2 := free_blk HResA.out 2; have z0 := cell_blk HResA.out 0 rfl; have z1 := cell_blk HResA.out 1 rfl; have z2 := cell_blk HResA.out 2 rfl; clear hgA)
                    | (refine wpList_load_row (by rfl) 27 (.tmp 6) (by rfl) sb (by rfl) 27 #[.int .i64 (k : Int), .string (⟨#[]⟩ : ByteArray), .string nm] (0, 0) _ HRowA.out Tryd.underlying27 rfl hI ?_)
                    | (refine wpList_load_rowG (by rfl) 27 (.tmp 6) (by rfl) sb (by rfl) 27 #[.int .i64 (k : Int), .string (⟨#[]⟩ : ByteArray), .string nm] (0, 0) _ HRowA.out Tryd.underlying27 rfl hI ?_)
                    | (go_at_call 27; with_reducible refine (HTx.out _).mono ?_; rintro e wB ⟨rfl, hgB⟩; have HRowB := Lib.hid (hold_blk HRowA.out hgB); have HResB := Lib.hid (hold_blk HResA.out hgB); have HGB := Lib.hid (grown_trans HGA.out hgB); have y0 := free_blk HResB.out 0; have y1 := free_blk HResB.out 1; have y2 := free_blk HResB.out 2; have z0 := cell_blk HResB.out 0 rfl; have z1 := cell_blk HResB.out 1 rfl; have z2 := cell_blk HResB.out 2 rfl; clear hgB)
                    | (refine wpList_load_row (by rfl) 27 (.tmp 6) (by rfl) sb (by rfl) 27 #[.int .i64 (k : Int), .string (⟨#[]⟩ : ByteArray), .string nm] (0, 0) _ HRowB.out Tryd.underlying27 rfl hI ?_))
                  refine bodyPost_ret (v := .tuple #[.agg #[.int .i64 (k : Int), .string (⟨#[]⟩ : ByteArray), .string nm], .bool true]) ?_ rfl ⟨HY.out, grown_set (grown_set (grown_set HGB.out (.inl (Nat.le_refl _)) _) (.inl (Nat.le_refl _)) _) (.inl (Nat.le_refl _)) _⟩
                  exact results_rowT Tryd.results10 _ _ w.heap.size _ _ (0, 0) _ _ rfl (set3 HResB.out) Tryd.underlying27 rfl hI rfl
                · have htq : ((Na.text ⟨(k : Int), (⟨#[]⟩ : ByteArray), nm⟩).toList == t.toList) = false := by rw [beq_eq_false_iff_ne]; exact fun h => htx (Na.toList_inj h)
                  have HNo : Hid (∀ j : Nat, 1 ≤ j → j < k + 1 → ¬ Hit9 t j) := Lib.hid (fun j hj1 hj2 => by
                    rcases Nat.lt_or_ge j k with h | h
                    · exact H0.out j hj1 h
                    · obtain rfl : j = k := by omega
                      rintro ⟨r, h1, _, h3⟩
                      rw [HWkE.out] at h1
                      rw [HPc.out r h1] at h3
                      exact htx h3)
                  generalize Na.text ⟨(k : Int), (⟨#[]⟩ : ByteArray), nm⟩ = T9 at *
                  clear hr htx
                  go_wp2_with (first
                    | (refine wpList_load_row (by rfl) 27 (.tmp 6) (by rfl) sb (by rfl) 27 #[.int .i64 (k : Int), .string (⟨#[]⟩ : ByteArray), .string nm] (0, 0) _ HRow.out Tryd.underlying27 rfl hI ?_)
                    | (go_at_call 21; with_reducible refine (HRt.out _).mono ?_; rintro e wA ⟨rfl, hgA⟩; have HRowA := Lib.hid (hold_blk HRow.out hgA); have HResA := Lib.hid (hold_blk HRes.out hgA); have HGA := Lib.hid (grown_trans HG.out hgA); have y0 := free_blk HResA.out 0; have y1 := free_blk HResA.out 1; have y2 := free_blk HResA.out 2; have z0 := cell_blk HResA.out 0 rfl; have z1 := cell_blk HResA.out 1 rfl; have z2 := cell_blk HResA.out 2 rfl; clear hgA)
                    | (refine wpList_load_row (by rfl) 27 (.tmp 6) (by rfl) sb (by rfl) 27 #[.int .i64 (k : Int), .string (⟨#[]⟩ : ByteArray), .string nm] (0, 0) _ HRowA.out Tryd.underlying27 rfl hI ?_)
                    | (refine wpList_load_rowG (by rfl) 27 (.tmp 6) (by rfl) sb (by rfl) 27 #[.int .i64 (k : Int), .string (⟨#[]⟩ : ByteArray), .string nm] (0, 0) _ HRowA.out Tryd.underlying27 rfl hI ?_)
                    | (go_at_call 27; with_reducible refine (HTx.out _).mono ?_; rintro e wB ⟨rfl, hgB⟩; have HRowB := Lib.hid (hold_blk HRowA.out hgB); have HResB := Lib.hid (hold_blk HResA.out hgB); have HGB := Lib.hid (grown_trans HGA.out hgB); have y0 := free_blk HResB.out 0; have y1 := free_blk HResB.out 1; have y2 := free_blk HResB.out 2; have z0 := cell_blk HResB.out 0 rfl; have z1 := cell_blk HResB.out 1 rfl; have z2 := cell_blk HResB.out 2 rfl; clear hgB)
                    | (refine wpList_load_row (by rfl) 27 (.tmp 6) (by rfl) sb (by rfl) 27 #[.int .i64 (k : Int), .string (⟨#[]⟩ : ByteArray), .string nm] (0, 0) _ HRowB.out Tryd.underlying27 rfl hI ?_))
                  go_roundw
                  case rel => exact ⟨k + 1, by omega, by omega, by go_num, HGB.out, HResB.out, HNo.out⟩
                  case measure => simp [intOf]; omega
        · have hq1 : ((t.extract 0 (wk.size + 1)).toList == (wk ++ ⟨#[58]⟩ : ByteArray).toList) = false := by rw [beq_eq_false_iff_ne]; exact fun h => hpre (Na.toList_inj h)
          have HNo : Hid (∀ j : Nat, 1 ≤ j → j < k + 1 → ¬ Hit9 t j) := Lib.hid (fun j hj1 hj2 => by
            rcases Nat.lt_or_ge j k with h | h
            · exact H0.out j hj1 h
            · obtain rfl : j = k := by omega
              exact fun hh => hpre (HPi.out.1 (HHit.out hh)).2)
          clear hpre hsz
          go_wp2_with (go_at_call 26; refine (HWk.out _).mono ?_; rintro e w2 ⟨rfl, hg2⟩; have HRes2 := Lib.hid (hold_blk HRes1.out hg2); have HG2 := Lib.hid (grown_trans HG1.out hg2); clear hg2)
          go_roundw
          case rel => exact ⟨k + 1, by omega, by omega, by go_num, HG2.out, HRes2.out, HNo.out⟩
          case measure => simp [intOf]; omega
end Go.Proofs.YtepjjgplnmkjgaaDoor
