/- The walk of the law TextsMask, over what is asked of package texts. -/
import Derived.Test.YtbneggdfbkebcaaDoorPl0
import Derived.Test.YtbneggdfbkebcaaDoorPl1
namespace Go.Proofs.YtbneggdfbkebcaaDoor
open Go.RowKit

theorem mask_err {l : List Nat} {k : Nat} (h : Pt.mask l = .error k) : k = 2 ∨ k = 4 ∨ k = 1 := by
  match l, h with
  | [], h => rw [Pt.mask] at h; cases h; exact .inl rfl
  | [_], h =>
    rw [Pt.mask] at h
    split at h <;> cases h
    exact .inr (.inl rfl)
  | [_, _], h =>
    rw [Pt.mask] at h
    split at h <;> cases h
    exact .inr (.inl rfl)
  | [_, _, _], h =>
    rw [Pt.mask] at h
    split at h
    · split at h <;> cases h
      exact .inr (.inr rfl)
    · cases h; exact .inr (.inl rfl)
  | _ :: _ :: _ :: _ :: _, h => rw [Pt.mask] at h; cases h; exact .inr (.inl rfl); all_goals simp

set_option maxRecDepth 100000 in
set_option maxHeartbeats 2000000 in
theorem textsMask_any (A : Nat → Addr) (v : Value) (l : List Nat) (w : World) (hB : Bytes w v l) (h0 : Whole0 v) (hE : AllErrs w A) (hF : TxFlags A w) (hM : TxMask A w) :
    Calls Tryd.prog 5 #[v] w fun e w' => e = .returned (.bool true) ∧ w.grownBy w' none := by
  have HAl := Lib.hid (alive7_any A w hF)
  have HE := Lib.hid (fun W hW => hE.grown (w' := W) hW)
  have HB := Lib.hid hB
  have H0 := Lib.hid h0
  have HM0 := Lib.hid hM
  obtain ⟨hlt, va, sb, so, vc, rfl, _, _, _⟩ := hB
  have HLt := Lib.hid hlt
  obtain ⟨n, hn⟩ : ∃ n, n = l.length := ⟨_, rfl⟩
  have HN := Lib.hid hn
  rw [← hn] at HB H0 ⊢
  clear h0 hn hlt hE hF hM
  by_cases h100 : 100 < n
  · go_enter Tryd.func5, Tryd.ntmps5
    go_wp2_with (go_at_call 7; refine HAl.out.mono ?_; rintro e w1 ⟨rfl, hg1⟩; have HG1 := Lib.hid hg1; clear hg1)
    go_ret
    exact ⟨rfl, HG1.out⟩
  have HNB : Hid (∀ W, w.grownBy W none → Calls Tryd.prog 19 #[.slice va n vc] W fun e w' => ∃ g c, e = .returned (.slice (some ⟨g, 0, none⟩) n c) ∧ n + 6 ≤ c ∧ c ≤ maxLen ∧ W.grownBy w' none ∧ g < w'.heap.size ∧ Room w' g l) := Lib.hid (fun W hW => by
    have := numBytes_any _ l W (HB.out.grown hW) H0.out (by rw [← HN.out]; omega)
    rw [← HN.out] at this
    exact this.mono (by
      rintro e w' ⟨g, c, h1, h2, h3, _, ⟨cur, fr, h5⟩, h6, h7⟩
      exact ⟨g, c, h1, h2, h3, h6, blk_lt h5, h7⟩))
  have HKp : Hid (∀ g c (W : World), n + 6 ≤ c → c ≤ maxLen → g < W.heap.size → Room W g l → w.grownBy W none → Calls Tryd.prog 21 #[.slice (some ⟨g, 0, none⟩) n c, .slice va n vc] W fun e w' => e = .returned (.bool true) ∧ W.grownBy w' none) := Lib.hid (fun g c W h1 h2 h3 h4 h5 => (kept_any g n c _ l W HN.out.symm h1 (by unfold maxLen at h2; omega) h3 h4 (HB.out.grown h5)).mono (by
    rintro e w' ⟨rfl, m, hm⟩
    exact ⟨rfl, by rw [hm]; exact grown_drewN (grown_refl _ _) _⟩))
  have hGt : ∀ g c (W : World), n + 6 ≤ c → g < W.heap.size → Room W g l → w.grownBy W none → Calls Tryd.prog 17 #[.slice (some ⟨g, 0, none⟩) n c] W fun e w' => W.grownBy w' none ∧ e = .returned (mkGot A (Pt.mask l)) := fun g c W h1 h2 h3 h4 => by
    have := h3.bytes (c := c) HLt.out h2 (by rw [← HN.out]; omega)
    rw [← HN.out] at this
    exact HM0.out _ l W h4 this (by rw [← HN.out]; omega)
  have hRG : ∀ W, w.grownBy W none → Calls Tryd.prog 20 #[.slice va n vc] W fun e w' => e = .returned (maskOut (Pt.mask l)) ∧ W.grownBy w' none := fun W hW => (refMask_any _ l W (HB.out.grown hW) (by rw [← HN.out]; omega)).mono (fun e w' h => ⟨h.1, by rw [h.2]; exact grown_refl _ _⟩)
  rcases hg : Pt.mask l with k | m
  · rw [hg] at hGt hRG
    simp only [mkGot] at hGt
    simp only [mo_er] at hRG
    obtain ⟨hk28, hk0⟩ : k ≤ 28 ∧ k ≠ 0 := by rcases mask_err hg with rfl | rfl | rfl <;> decide
    have hek : errOf A k = errV A k := by rw [errOf, if_neg hk0]
    have hNm := fun W hW => num_of A k hk28 W (HE.out W hW)
    rw [hek] at hNm
    have HNm := Lib.hid hNm
    have HGt := Lib.hid hGt
    have HRG := Lib.hid hRG
    have hkn : ((k : Int) != 0) = true := by simp; omega
    clear hg hNm hGt hRG hek hk28 hk0
    go_enter Tryd.func5, Tryd.ntmps5
    go_wp2_with (first
      | (go_at_call 7; refine HAl.out.mono ?_; rintro e w1 ⟨rfl, hg1⟩; have HG1 := Lib.hid hg1; clear hg1)
      | (go_at_call 19; refine (HNB.out _ HG1.out).mono ?_; rintro e w2 ⟨gB, c, rfl, hc1, hc2, hg2, hgB, hRm⟩; have HG2 := Lib.hid (grown_trans HG1.out hg2); have Hc1 := Lib.hid hc1; have Hc2 := Lib.hid hc2; have HRm := Lib.hid (fun (W : World) (hW : w2.grownBy W none) => And.intro (Nat.lt_of_lt_of_le hgB hW.size) (hRm.grown hgB hW (by simp))); clear hg2 hc1 hc2 hgB hRm)
      | (go_at_call 17; refine (HGt.out _ _ _ Hc1.out (HRm.out _ (grown_refl _ _)).1 (HRm.out _ (grown_refl _ _)).2 HG2.out).mono ?_; rintro e w3 ⟨hg3, rfl⟩; have HG23 := Lib.hid hg3; have HG3 := Lib.hid (grown_trans HG2.out hg3); clear hg3)
      | (go_at_call 20; refine (HRG.out _ HG3.out).mono ?_; rintro e w4 ⟨rfl, hg4⟩; have HG24 := Lib.hid (grown_trans HG23.out hg4); have HG4 := Lib.hid (grown_trans HG3.out hg4); clear hg4)
      | (go_at_call 15; refine (HNm.out _ HG4.out).mono ?_; rintro e w5 ⟨rfl, hg5⟩; have HG25 := Lib.hid (grown_trans HG24.out hg5); have HG5 := Lib.hid (grown_trans HG4.out hg5); clear hg5)
      | (go_at_call 21; refine (HKp.out _ _ _ Hc1.out Hc2.out (HRm.out _ HG25.out).1 (HRm.out _ HG25.out).2 HG5.out).mono ?_; rintro e w6 ⟨rfl, hg6⟩; have HG6 := Lib.hid (grown_trans HG5.out hg6); clear hg6))
    go_quiet (fail)
    go_wp2
    go_ret
    exact ⟨rfl, grown_drewN HG6.out _⟩
  · rw [hg] at hGt hRG
    simp only [mkGot] at hGt
    simp only [mo_ok] at hRG
    have hN0 := fun W hW => num_of A 0 (by decide) W (HE.out W hW)
    have e0 : errOf A 0 = .nilIface := rfl
    rw [e0] at hN0
    obtain ⟨hfm, hm3⟩ := Pt.flags_mask HLt.out hg
    have HR := Lib.hid (fun W => refFlags_any m hm3 W)
    rw [hfm] at HR
    have HC := Lib.hid (fun W x (hx : Bytes W x l) => conv_bytes (P := Tryd.prog) hx 24 5 9 Tryd.underlying24 Tryd.underlying5 Tryd.underlying9)
    have HNm := Lib.hid hN0
    have HGt := Lib.hid hGt
    have HRG := Lib.hid hRG
    clear hg hGt hRG hN0 e0 hfm hm3
    go_enter Tryd.func5, Tryd.ntmps5
    go_wp2_with (first
      | (go_at_call 7; refine HAl.out.mono ?_; rintro e w1 ⟨rfl, hg1⟩; have HG1 := Lib.hid hg1; clear hg1)
      | (go_at_call 19; refine (HNB.out _ HG1.out).mono ?_; rintro e w2 ⟨gB, c, rfl, hc1, hc2, hg2, hgB, hRm⟩; have HG2 := Lib.hid (grown_trans HG1.out hg2); have Hc1 := Lib.hid hc1; have Hc2 := Lib.hid hc2; have HRm := Lib.hid (fun (W : World) (hW : w2.grownBy W none) => And.intro (Nat.lt_of_lt_of_le hgB hW.size) (hRm.grown hgB hW (by simp))); clear hg2 hc1 hc2 hgB hRm)
      | (go_at_call 17; refine (HGt.out _ _ _ Hc1.out (HRm.out _ (grown_refl _ _)).1 (HRm.out _ (grown_refl _ _)).2 HG2.out).mono ?_; rintro e w3 ⟨hg3, rfl⟩; have HG23 := Lib.hid hg3; have HG3 := Lib.hid (grown_trans HG2.out hg3); clear hg3)
      | (go_at_call 20; refine (HRG.out _ HG3.out).mono ?_; rintro e w4 ⟨rfl, hg4⟩; have HG24 := Lib.hid (grown_trans HG23.out hg4); have HG4 := Lib.hid (grown_trans HG3.out hg4); clear hg4)
      | (go_at_call 15; refine (HNm.out _ HG4.out).mono ?_; rintro e w5 ⟨rfl, hg5⟩; have HG25 := Lib.hid (grown_trans HG24.out hg5); have HG5 := Lib.hid (grown_trans HG4.out hg5); clear hg5)
      | (go_at_call 21; refine (HKp.out _ _ _ Hc1.out Hc2.out (HRm.out _ HG25.out).1 (HRm.out _ HG25.out).2 HG5.out).mono ?_; rintro e w6 ⟨rfl, hg6⟩; have HG6 := Lib.hid (grown_trans HG5.out hg6); clear hg6))
    refine tm_region _ (m : Int) va n vc (strOf l) l w6 w6 _ rfl rfl rfl rfl (fun W _ => (HR.out W).mono (fun e w' ⟨v, h1, h2, h3⟩ => ⟨v, h1, h3, h2⟩)) (fun W hW => HC.out W _ (HB.out.grown (grown_trans HG6.out hW))) (fun W x hx => HC.out W x hx) ⟨rfl, rfl, rfl, Nat.le_refl _, fun _ _ _ => rfl⟩ (fun us w7 hg7 => ?_)
    simp only [fill_cons, fill_nil, Act.put, List.setIfInBounds_toArray, List.set_cons_succ, List.set_cons_zero]
    have HG7 := Lib.hid hg7
    clear hg7
    go_wp2
    go_ret
    exact ⟨rfl, grown_trans HG6.out HG7.out⟩
end Go.Proofs.YtbneggdfbkebcaaDoor
