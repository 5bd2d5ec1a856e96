/- The walk of the law MomentsGet, over what is asked of package moments. -/
import Derived.Test.YtndjhhebmbmppaaDoorMo0
namespace Go.Proofs.YtndjhhebmbmppaaDoor
open Go.RowKit

theorem mget_err {l : List Nat} {k : Nat} (h : Cal.get l = .error k) : k = 4 ∨ k = 1 := by
  rw [Cal.get] at h
  split at h
  · cases h; exact .inl rfl
  · split at h
    · cases h
    · cases h; exact .inr rfl

set_option maxRecDepth 100000 in
set_option maxHeartbeats 2000000 in
theorem momentsGet_any (A : Nat → Addr) (v : Value) (l : List Nat) (w : World) (hB : Bytes w v l) (h0 : Whole0 v) (hE : AllErrs w A) (hP : MoPut A w) (hW : MoWd w) (hG : MoGet A w) :
    Calls Tryd.prog 5 #[v] w fun e w' => e = .returned (.bool true) ∧ w.grownBy w' none := by
  have HAl := Lib.hid (alive6_any A w hP hW)
  have HE := Lib.hid (fun W hW => hE.grown (w' := W) hW)
  have HB := Lib.hid hB
  have H0 := Lib.hid h0
  have HGt0 := Lib.hid hG
  obtain ⟨hlt, va, sb, so, vc, rfl, _, _, _⟩ := hB
  have HLt := Lib.hid hlt
  obtain ⟨n, hn⟩ : ∃ n, n = l.length := ⟨_, rfl⟩
  have HN := Lib.hid hn
  rw [← hn] at HB H0 ⊢
  clear h0 hn hlt hE hP hW hG
  by_cases h100 : 100 < n
  · go_enter Tryd.func5, Tryd.ntmps5
    go_wp2_with (go_at_call 7; refine HAl.out.mono ?_; rintro e w1 ⟨rfl, hg1⟩; have HG1 := Lib.hid hg1; clear hg1)
    go_ret
    exact ⟨rfl, HG1.out⟩
  have HNB : Hid (∀ W, w.grownBy W none → Calls Tryd.prog 18 #[.slice va n vc] W fun e w' => ∃ g c, e = .returned (.slice (some ⟨g, 0, none⟩) n c) ∧ n + 6 ≤ c ∧ c ≤ maxLen ∧ W.grownBy w' none ∧ g < w'.heap.size ∧ Room w' g l) := Lib.hid (fun W hW => by
    have := numBytes_any _ l W (HB.out.grown hW) H0.out (by rw [← HN.out]; omega)
    rw [← HN.out] at this
    exact this.mono (by
      rintro e w' ⟨g, c, h1, h2, h3, _, ⟨cur, fr, h5⟩, h6, h7⟩
      exact ⟨g, c, h1, h2, h3, h6, blk_lt h5, h7⟩))
  have HKp : Hid (∀ g c (W : World), n + 6 ≤ c → c ≤ maxLen → g < W.heap.size → Room W g l → w.grownBy W none → Calls Tryd.prog 20 #[.slice (some ⟨g, 0, none⟩) n c, .slice va n vc] W fun e w' => e = .returned (.bool true) ∧ W.grownBy w' none) := Lib.hid (fun g c W h1 h2 h3 h4 h5 => (kept_any g n c _ l W HN.out.symm h1 (by unfold maxLen at h2; omega) h3 h4 (HB.out.grown h5)).mono (by
    rintro e w' ⟨rfl, m, hm⟩
    exact ⟨rfl, by rw [hm]; exact grown_drewN (grown_refl _ _) _⟩))
  have hGt : ∀ g c (W : World), n + 6 ≤ c → g < W.heap.size → Room W g l → w.grownBy W none → Calls Tryd.prog 14 #[.slice (some ⟨g, 0, none⟩) n c] W fun e w' => W.grownBy w' none ∧ e = .returned (moGot A (Cal.get l)) := fun g c W h1 h2 h3 h4 => by
    have := h3.bytes (c := c) HLt.out h2 (by rw [← HN.out]; omega)
    rw [← HN.out] at this
    exact HGt0.out _ l W h4 this (by rw [← HN.out]; omega)
  have hRG : ∀ W, w.grownBy W none → Calls Tryd.prog 19 #[.slice va n vc] W fun e w' => e = .returned (mGot (Cal.get l)) ∧ W.grownBy w' none := fun W hW => refMGet_any _ l W (HB.out.grown hW)
  have hN4 := fun W hW => num_of A 4 (by decide) W (HE.out W hW)
  have hN1 := fun W hW => num_of A 1 (by decide) W (HE.out W hW)
  have hN0 := fun W hW => num_of A 0 (by decide) W (HE.out W hW)
  rcases hg : Cal.get l with k | m
  · rw [hg] at hGt hRG
    simp only [moGot] at hGt
    simp only [mGot] at hRG
    obtain ⟨hk28, hk0⟩ : k ≤ 28 ∧ k ≠ 0 := by rcases mget_err hg with rfl | rfl <;> decide
    have hek : errOf A k = errV A k := by rw [errOf, if_neg hk0]
    have hNm := fun W hW => num_of A k hk28 W (HE.out W hW)
    rw [hek] at hNm
    have HNm := Lib.hid hNm
    have HGt := Lib.hid hGt
    have HRG := Lib.hid hRG
    clear hg hNm hGt hRG hN4 hN1 hN0 hek hk28 hk0
    go_enter Tryd.func5, Tryd.ntmps5
    go_wp2_with (first
      | (go_at_call 7; refine HAl.out.mono ?_; rintro e w1 ⟨rfl, hg1⟩; have HG1 := Lib.hid hg1; clear hg1)
      | (go_at_call 18; refine (HNB.out _ HG1.out).mono ?_; rintro e w2 ⟨gB, c, rfl, hc1, hc2, hg2, hgB, hRm⟩; have HG2 := Lib.hid (grown_trans HG1.out hg2); have Hc1 := Lib.hid hc1; have Hc2 := Lib.hid hc2; have HRm := Lib.hid (fun (W : World) (hW : w2.grownBy W none) => And.intro (Nat.lt_of_lt_of_le hgB hW.size) (hRm.grown hgB hW (by simp))); clear hg2 hc1 hc2 hgB hRm)
      | (go_at_call 14; refine (HGt.out _ _ _ Hc1.out (HRm.out _ (grown_refl _ _)).1 (HRm.out _ (grown_refl _ _)).2 HG2.out).mono ?_; rintro e w3 ⟨hg3, rfl⟩; have HG23 := Lib.hid hg3; have HG3 := Lib.hid (grown_trans HG2.out hg3); clear hg3)
      | (go_at_call 19; refine (HRG.out _ HG3.out).mono ?_; rintro e w4 ⟨rfl, hg4⟩; have HG24 := Lib.hid (grown_trans HG23.out hg4); have HG4 := Lib.hid (grown_trans HG3.out hg4); clear hg4)
      | (go_at_call 10; refine (HNm.out _ HG4.out).mono ?_; rintro e w5 ⟨rfl, hg5⟩; have HG25 := Lib.hid (grown_trans HG24.out hg5); have HG5 := Lib.hid (grown_trans HG4.out hg5); clear hg5)
      | (go_at_call 20; refine (HKp.out _ _ _ Hc1.out Hc2.out (HRm.out _ HG25.out).1 (HRm.out _ HG25.out).2 HG5.out).mono ?_; rintro e w6 ⟨rfl, hg6⟩; have HG6 := Lib.hid (grown_trans HG5.out hg6); clear hg6))
    go_ret
    exact ⟨rfl, HG6.out⟩
  · rw [hg] at hGt hRG
    simp only [moGot] at hGt
    simp only [mGot] at hRG
    have e0 : errOf A 0 = .nilIface := rfl
    rw [e0] at hN0
    have HNm := Lib.hid hN0
    have HGt := Lib.hid hGt
    have HRG := Lib.hid hRG
    clear hg hGt hRG hN4 hN1 hN0 e0
    go_enter Tryd.func5, Tryd.ntmps5
    go_wp2_with (first
      | (go_at_call 7; refine HAl.out.mono ?_; rintro e w1 ⟨rfl, hg1⟩; have HG1 := Lib.hid hg1; clear hg1)
      | (go_at_call 18; refine (HNB.out _ HG1.out).mono ?_; rintro e w2 ⟨gB, c, rfl, hc1, hc2, hg2, hgB, hRm⟩; have HG2 := Lib.hid (grown_trans HG1.out hg2); have Hc1 := Lib.hid hc1; have Hc2 := Lib.hid hc2; have HRm := Lib.hid (fun (W : World) (hW : w2.grownBy W none) => And.intro (Nat.lt_of_lt_of_le hgB hW.size) (hRm.grown hgB hW (by simp))); clear hg2 hc1 hc2 hgB hRm)
      | (go_at_call 14; refine (HGt.out _ _ _ Hc1.out (HRm.out _ (grown_refl _ _)).1 (HRm.out _ (grown_refl _ _)).2 HG2.out).mono ?_; rintro e w3 ⟨hg3, rfl⟩; have HG23 := Lib.hid hg3; have HG3 := Lib.hid (grown_trans HG2.out hg3); clear hg3)
      | (go_at_call 19; refine (HRG.out _ HG3.out).mono ?_; rintro e w4 ⟨rfl, hg4⟩; have HG24 := Lib.hid (grown_trans HG23.out hg4); have HG4 := Lib.hid (grown_trans HG3.out hg4); clear hg4)
      | (go_at_call 10; refine (HNm.out _ HG4.out).mono ?_; rintro e w5 ⟨rfl, hg5⟩; have HG25 := Lib.hid (grown_trans HG24.out hg5); have HG5 := Lib.hid (grown_trans HG4.out hg5); clear hg5)
      | (go_at_call 20; refine (HKp.out _ _ _ Hc1.out Hc2.out (HRm.out _ HG25.out).1 (HRm.out _ HG25.out).2 HG5.out).mono ?_; rintro e w6 ⟨rfl, hg6⟩; have HG6 := Lib.hid (grown_trans HG5.out hg6); clear hg6))
    go_ret
    exact ⟨rfl, HG6.out⟩
end Go.Proofs.YtndjhhebmbmppaaDoor
