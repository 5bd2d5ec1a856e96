/- The walks of the library's Grow and Concat, at bytes. -/
import Derived.Test.YtbneggdfbkebcaaDoorSs
import Derived.Test.YtbneggdfbkebcaaDoorVl
import Derived.Test.YtbneggdfbkebcaaDoorPl5
namespace Go.Proofs.YtbneggdfbkebcaaDoor
open Go.RowKit
set_option linter.unusedVariables false

theorem iU8 : (Tryd.prog.info? 5).map (fun i => (i.zero, i.size, i.bytes)) = some (some (.int .u8 0), 1, 1) := by kernel_rfl
theorem grow_any (n : Nat) (w : World) (hn : n ≤ 100000) :
    Calls Tryd.prog 46 #[.slice none 0 0, .int .i64 n] w fun e w' => ∃ v, e = .returned v ∧ FrW w w' v [] := by
  rcases Nat.eq_zero_or_pos n with h0 | h0
  · subst h0
    exact (Any8.slices_Grow_room Tryd.laysGrow none 0 0 0 w (Nat.le_refl _) (by omega) (by omega) (by omega)).mono (by
      rintro e w' ⟨rfl, rfl⟩
      exact ⟨_, rfl, grown_refl _ _, ownsRow_empty _ _ _⟩)
  · obtain ⟨i0, h1, h2, h3, h4⟩ := info_parts iU8
    exact (Any8.slices_Grow_grow Tryd.laysGrow i0 (.int .u8 0) h1 h2 (by rw [h3]; decide) none 0 0 n [] w (Nat.le_refl _) (by omega) (by rw [h4]; omega) (by omega) (by simp) (fun _ => rfl) (fun _ h => by cases h)).mono (by
      rintro e w' ⟨rfl, rfl⟩
      have hge := grownCap_ge w (0 + n) 0 (Tryd.laysGrow_ren.t 25)
      refine ⟨_, rfl, grown_alloc (grown_drewN (grown_refl _ _) 1) _, by simp [cellsL], .inr ⟨_, _, _, rfl, Nat.le_refl _, alloc_at _ _, Nat.zero_le _, ?_, ?_, by simp [cellsL]⟩⟩
      · exact grownCap_le_maxLen w _ _ _ (by unfold maxLen; omega)
      · simp only [Array.size_append, List.size_toArray, size_zeroCells]
        simp [Value.cells]
        rw [Nat.zero_add] at hge
        omega)
/-- How long the first so many are together. -/
def lensTo (L : List (List Nat)) (k : Nat) : Nat := (L.take k).flatten.length
theorem lensTo_next (L : List (List Nat)) {k : Nat} (hk : k < L.length) : lensTo L (k + 1) = lensTo L k + (L.getD k []).length := by
  rw [lensTo, cat_take L hk, List.length_append]; rfl
theorem lensTo_le (L : List (List Nat)) (h : ∀ x ∈ L, x.length ≤ 100) (h20 : L.length ≤ 20) (k : Nat) : lensTo L k ≤ 2000 := by
  have := cat_len (L.take k) (fun x hx => h x (List.mem_of_mem_take hx))
  rw [List.length_take] at this
  unfold lensTo
  omega
set_option maxRecDepth 100000 in
set_option maxHeartbeats 2000000 in
theorem concat_any (a : Option Addr) (n c : Nat) (ys : List Value) (L : List (List Nat)) (w : World) (hV : Vals w (.slice a n c) ys) (hE : Each w ys L) (h20 : n ≤ 20) (h100 : ∀ x ∈ L, x.length ≤ 100) :
    Calls Tryd.prog 36 #[.slice a n c] w fun e w' => ∃ u, e = .returned u ∧ w.grownBy w' none ∧ Bytes w' u L.flatten := by
  have hln : L.length = n := by rw [← hE.len]; exact hV.cap.1.symm
  have HLn := Lib.hid hln
  have HEl := Lib.hid hE.lt
  obtain ⟨a1, sb, so, c1, he, hc, ha, hcell⟩ := hV
  simp only [Value.slice.injEq] at he
  obtain ⟨rfl, hny, rfl⟩ := he
  rw [← hny] at hc ha
  have HIn : Hid (∀ W, w.grownBy W none → ∀ j, j < n → a = some ⟨sb, so, none⟩ ∧ ∃ y ya yc, y = .slice ya (L.getD j []).length yc ∧ W.cell? ⟨sb, so + j, none⟩ = some y ∧ Bytes W y (L.getD j []) ∧ Whole0 y) := Lib.hid (fun W hW j hj => by
    obtain ⟨y, h1, h2, h3⟩ := hE.at_ j (by omega)
    have h2' := h2
    obtain ⟨_, ya, _, _, yc, rfl, _⟩ := h2'
    exact ⟨(ha (by omega)).1, _, ya, yc, rfl, by rw [World.cell?_of_block (hW.block sb (ha (by omega)).2 (by simp))]; exact hcell j _ h1, h2.grown hW, h3⟩)
  have HLe : Hid (∀ k, lensTo L k ≤ 2000) := Lib.hid (lensTo_le L h100 (by omega))
  have HNx : Hid (∀ k, k < n → lensTo L (k + 1) = lensTo L k + (L.getD k []).length) := Lib.hid (fun k hk => lensTo_next L (by omega))
  have HTk : Hid (∀ i, i < n → (L.take (i + 1)).flatten = (L.take i).flatten ++ L.getD i []) := Lib.hid (fun i hi => cat_take _ (by omega))
  have HTe : Hid ((L.take n).flatten = L.flatten) := Lib.hid (by rw [List.take_of_length_le (by omega)])
  have HGr : Hid (∀ k W, Calls Tryd.prog 46 #[.slice none 0 0, .int .i64 (lensTo L k : Nat)] W fun e w' => ∃ v, e = .returned v ∧ FrW W w' v []) := Lib.hid (fun k W => grow_any _ W (by have := HLe.out k; omega))
  clear hE ha hcell hny hln h100
  go_enter Tryd.func36, Tryd.ntmps36
  go_wp2
  go_loopw [3, 11] (fun t i wr => ∃ k : Nat, k ≤ n ∧ i = .int .i64 (k : Int) ∧ t = .int .i64 (lensTo L k : Nat) ∧ wr = w) (fun _ i _ => n - (intOf i).toNat)
  case atStart => exact ⟨0, Nat.zero_le _, rfl, rfl, rfl⟩
  case round =>
    obtain ⟨k, hk, rfl, rfl, rfl⟩ := hrel
    by_cases hkn : k < n
    · obtain ⟨rfl, y, ya, yc, rfl, hy, _, _⟩ := HIn.out wr (grown_refl _ _) k hkn
      have h1 := HNx.out k hkn
      have h2 := HLe.out k
      have h3 := HLe.out (k + 1)
      generalize (L.getD k []).length = yl at *
      have e1 : IntKind.i64.wrap ((lensTo L k : Nat) + (yl : Int)) = (lensTo L (k + 1) : Nat) := by rw [IntKind.wrap_i64]; omega
      have HX := Lib.hid h1
      generalize lensTo L k = s at *
      have z0 : ¬ ((s : Int) + yl < 0) := by omega
      clear h1
      go_wp2
      go_roundw
      case rel => exact ⟨k + 1, by omega, by go_num, by rw [HX.out], trivial⟩
      case measure => simp [intOf]; omega
    · obtain rfl : k = n := by omega
      obtain ⟨wo, rfl⟩ : ∃ wo : World, wo = wr := ⟨_, rfl⟩
      go_wp2_with (go_at_call 46; refine (HGr.out k wo).mono ?_; rintro e w3 ⟨v3, rfl, hf3⟩; have F3 := Lib.hid hf3; clear hf3)
      go_loopw [6, 27] (fun v i wq => ∃ m : Nat, m ≤ k ∧ i = .int .i64 (m : Int) ∧ FrW wo wq v (L.take m).flatten) (fun _ i _ => k - (intOf i).toNat)
      case atStart => exact ⟨0, Nat.zero_le _, rfl, F3.out⟩
      case round =>
        obtain ⟨m, hm, rfl, hF⟩ := hrel
        have HF := Lib.hid hF
        by_cases hmk : m < k
        · obtain ⟨rfl, y, ya, yc, hye, hy, hyb, hy0⟩ := HIn.out _ hF.grown m hmk
          have HYb := Lib.hid hyb
          have HY0 := Lib.hid hy0
          have HTk2 := Lib.hid (HTk.out m hmk)
          have HP2 := Lib.hid (HLe.out (m + 1))
          clear hF hyb hy0 hye
          go_wp2_with (at_builtin; refine wpList_appB (by rfl) (.tmp 31) (.tmp 32) 24 (by rfl) wo.heap.size 5 (.int .u8 0) 1 Tryd.underlying24 (by kernel_rfl) rfl (by decide) _ _ _ (by rfl) HF.out.own _ _ (by rfl) HYb.out HY0.out (by have h1 := HP2.out; rw [lensTo, HTk2.out, List.length_append] at h1; omega) HF.out.le ?_; intro v4 w4 ho4 hg4; have F4 := Lib.hid (HF.out.step (l' := (L.take (m + 1)).flatten) ho4 hg4 (by rw [HTk2.out]; exact (cellsL_append _ _).symm)); clear ho4 hg4)
          go_roundw
          case rel => exact ⟨m + 1, by omega, by go_num, F4.out⟩
          case measure => simp [intOf]; omega
        · obtain rfl : m = k := by omega
          rw [HTe.out] at HF
          clear hF
          go_wp2
          go_ret
          exact ⟨_, rfl, HF.out.grown, Bytes.own HF.out.own HEl.out⟩
end Go.Proofs.YtbneggdfbkebcaaDoor
