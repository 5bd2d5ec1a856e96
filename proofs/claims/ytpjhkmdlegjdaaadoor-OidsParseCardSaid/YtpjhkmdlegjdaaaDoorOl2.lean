/- The walk of the law OidsText, over what is asked of package oids. -/
import Derived.Test.YtpjhkmdlegjdaaaDoorOl1
import Derived.Test.YtpjhkmdlegjdaaaDoorIn4
namespace Go.Proofs.YtpjhkmdlegjdaaaDoor
open Go.RowKit

/-- oids.Text answers as the document says. -/
def TxSpec (A : Nat → Addr) (w : World) : Prop := ∀ (v : Value) (l : List Int) (W : World), w.grownBy W none → Ints W v l → l.length ≤ 100000 → Calls Tryd.prog 15 #[v] W fun e w' => W.grownBy w' none ∧ e = .returned (if Od.right l = true then .tuple #[.string (strOf (Od.text l)), .nilIface] else .tuple #[.string ⟨#[]⟩, errV A 1])

theorem dig_lt (u : Nat) (h : u < 100000000000000000000) : ∀ x ∈ Wh.dig u, x < 256 := fun x hx => by
  have := List.all_eq_true.1 (Wh.dig_fig u h) x hx
  simp [Wh.fig] at this
  omega
theorem text_lt : ∀ (l : List Int), (∀ n ∈ l, 0 ≤ n ∧ n ≤ 2147483647) → ∀ x ∈ Od.text l, x < 256
  | [], _, x, h => by simp [Od.text] at h
  | [n], hl, x, h => by
    have := (hl n (by simp)).2
    exact dig_lt n.toNat (by omega) x h
  | n :: m :: r, hl, x, h => by
    have h1 := (hl n (by simp)).2
    have e : Od.text (n :: m :: r) = Wh.dig n.toNat ++ 46 :: Od.text (m :: r) := rfl
    rw [e] at h
    rcases List.mem_append.1 h with h | h
    · exact dig_lt n.toNat (by omega) x h
    · rcases List.mem_cons.1 h with rfl | h
      · decide
      · exact text_lt (m :: r) (fun z hz => hl z (by simp [hz])) x h

set_option maxRecDepth 100000 in
set_option maxHeartbeats 2000000 in
theorem oidsText_any (A : Nat → Addr) (v : Value) (l : List Int) (w : World) (hB : Ints w v l) (h0 : Whole0 v) (hE : AllErrs w A) (hPa : PaSpec A w) (hPt : PtSpec A w) (hTx : TxSpec A w) :
    Calls Tryd.prog 4 #[v] w fun e w' => e = .returned (.bool true) ∧ w.grownBy w' none := by
  have HAl := Lib.hid (alive5_any A w hPt)
  have HE := Lib.hid (fun W hW => hE.grown (w' := W) hW)
  have HB := Lib.hid hB
  have H0 := Lib.hid h0
  obtain ⟨va, sb, so, vc, rfl, _, _, _⟩ := hB
  obtain ⟨n, hn⟩ : ∃ n, n = l.length := ⟨_, rfl⟩
  have HN := Lib.hid hn
  rw [← hn] at HB H0 ⊢
  clear h0 hn hE hPt
  by_cases h60 : 60 < n
  · clear hPa hTx
    go_enter Tryd.func4, Tryd.ntmps4
    go_wp2_with (go_at_call 6; refine HAl.out.mono ?_; rintro e w1 ⟨rfl, hg1⟩; have HG1 := Lib.hid hg1; clear hg1)
    go_ret
    exact ⟨rfl, HG1.out⟩
  have HNB : Hid (∀ W, w.grownBy W none → Calls Tryd.prog 14 #[.slice va n vc] W fun e w' => ∃ g c, e = .returned (.slice (some ⟨g, 0, none⟩) n c) ∧ n + 4 ≤ c ∧ c ≤ maxLen ∧ W.grownBy w' none ∧ g < w'.heap.size ∧ RoomI w' g l) := Lib.hid (fun W hW => by
    have := numInts_any _ l W (HB.out.grown hW) H0.out (by rw [← HN.out]; omega)
    rw [← HN.out] at this
    exact this.mono (by
      rintro e w' ⟨g, c, h1, h2, h3, _, ⟨cur, fr, h5⟩, h6, h7⟩
      exact ⟨g, c, h1, h2, h3, h6, blk_lt h5, h7⟩))
  have HKp : Hid (∀ g c (W : World), n + 4 ≤ c → c ≤ maxLen → g < W.heap.size → RoomI W g l → w.grownBy W none → Calls Tryd.prog 16 #[.slice (some ⟨g, 0, none⟩) n c, .slice va n vc] W fun e w' => e = .returned (.bool true) ∧ W.grownBy w' none) := Lib.hid (fun g c W h1 h2 h3 h4 h5 => (keptI_any g n c _ l W HN.out.symm h1 (by unfold maxLen at h2; omega) (by omega) h3 h4 (HB.out.grown h5)).mono (by
    rintro e w' ⟨rfl, m, hm⟩
    exact ⟨rfl, by rw [hm]; exact grown_drewN (grown_refl _ _) _⟩))
  have HRt := Lib.hid (fun W (hW : w.grownBy W none) => refRight_any (.slice va n vc) l W (HB.out.grown hW))
  have hTx' := fun g c W (hW : w.grownBy W none) (h : Ints W (.slice (some ⟨g, 0, none⟩) n c) l) => hTx _ l W hW h (by rw [← HN.out]; omega)
  by_cases hr : Od.right l = true
  · rw [hr] at HRt
    have hpt := Od.parse_text hr
    have htl := Od.text_len l
    have hlt : ∀ x ∈ Od.text l, x < 256 := text_lt l ((Od.right_iff l).1 hr).2
    have hall := ((Od.right_iff l).1 hr).2
    have hPa' := fun W hW => hPa (strOf (Od.text l)) W (by rw [strOf_size]; rw [← HN.out] at htl; omega) hW
    rw [strL_strOf hlt, hpt] at hPa'
    have HPa : Hid (∀ W, w.grownBy W none → Calls Tryd.prog 7 #[.string (strOf (Od.text l))] W fun e w' => W.grownBy w' none ∧ ∃ a c, e = .returned (.tuple #[.slice a l.length c, .nilIface]) ∧ Ints w' (.slice a l.length c) l) := Lib.hid hPa'
    rw [← HN.out] at HPa
    simp only [hr, if_true] at hTx'
    have HTx := Lib.hid hTx'
    have HRT := Lib.hid (fun W (hW : w.grownBy W none) => refOText_any (.slice va n vc) l W (HB.out.grown hW) (by rw [← HN.out]; omega) hall)
    have hSm := fun v1 v2 W h1 h2 => sameI_any v1 v2 l l W h1 h2 (by rw [← HN.out]; omega) (by rw [← HN.out]; omega)
    rw [decide_eq_true rfl] at hSm
    have HSm := Lib.hid hSm
    generalize strOf (Od.text l) = T at *
    have htt : (T.toList == T.toList) = true := by simp
    clear hr hpt htl hlt hall hPa' hTx' hPa hTx hSm
    go_enter Tryd.func4, Tryd.ntmps4
    go_wp2_with (first
      | (go_at_call 6; refine HAl.out.mono ?_; rintro e w1 ⟨rfl, hg1⟩; have HG1 := Lib.hid hg1; clear hg1)
      | (go_at_call 14; refine (HNB.out _ HG1.out).mono ?_; rintro e w2 ⟨gB, c, rfl, hc1, hc2, hg2, hgB, hRm⟩; have HG2 := Lib.hid (grown_trans HG1.out hg2); have Hc1 := Lib.hid hc1; have Hc2 := Lib.hid hc2; have HRm := Lib.hid (fun (W : World) (hW : w2.grownBy W none) => And.intro (Nat.lt_of_lt_of_le hgB hW.size) (hRm.grown hgB hW)); clear hg2 hc1 hc2 hgB hRm)
      | (go_at_call 15; refine (HTx.out _ _ _ HG2.out (by have := (HRm.out _ (grown_refl _ _)).2.ints (HRm.out _ (grown_refl _ _)).1 (show l.length ≤ c by rw [← HN.out]; have := Hc1.out; omega); rwa [← HN.out] at this)).mono ?_; rintro e w3 ⟨hg3, rfl⟩; have HG23 := Lib.hid hg3; have HG3 := Lib.hid (grown_trans HG2.out hg3); clear hg3)
      | (go_at_call 16; refine (HKp.out gB c _ Hc1.out Hc2.out (HRm.out _ HG23.out).1 (HRm.out _ HG23.out).2 HG3.out).mono ?_; rintro e w4 ⟨rfl, hg4⟩; have HG4 := Lib.hid (grown_trans HG3.out hg4); clear hg4)
      | (go_at_call 17; refine (HRt.out _ HG4.out).mono ?_; rintro e w5 ⟨rfl, hw5⟩; rw [hw5]; clear hw5)
      | (go_at_call 7; refine (HPa.out _ HG4.out).mono ?_; rintro e w6 ⟨hg6, a6, c6, rfl, hi6⟩; have HG6 := Lib.hid (grown_trans HG4.out hg6); have HI6 := Lib.hid (fun (W : World) (hW : w6.grownBy W none) => hi6.grown hW); clear hg6 hi6)
      | (go_at_call 18; refine (HRT.out _ HG6.out).mono ?_; rintro e w7 ⟨rfl, hg7⟩; have HG67 := Lib.hid hg7; have HG7 := Lib.hid (grown_trans HG6.out hg7); clear hg7)
      | (go_at_call 11; refine (HSm.out _ _ _ (HI6.out _ HG67.out) (HB.out.grown HG7.out)).mono ?_; rintro e w8 ⟨rfl, q, hw8⟩; have HG8 : Hid (w.grownBy w8 none) := Lib.hid (by rw [hw8]; exact grown_drewN HG7.out q); clear hw8))
    go_ret
    exact ⟨rfl, HG8.out⟩
  · rw [Bool.not_eq_true] at hr
    rw [hr] at HRt
    simp only [hr, Bool.false_eq_true, if_false] at hTx'
    have HTx := Lib.hid hTx'
    have e1 : errOf A 1 = errV A 1 := rfl
    have hNm := fun W hW => num_of A 1 (by decide) W (HE.out W hW)
    rw [e1] at hNm
    have HNm := Lib.hid hNm
    clear hr hTx' hPa hTx hNm
    go_enter Tryd.func4, Tryd.ntmps4
    go_wp2_with (first
      | (go_at_call 6; refine HAl.out.mono ?_; rintro e w1 ⟨rfl, hg1⟩; have HG1 := Lib.hid hg1; clear hg1)
      | (go_at_call 14; refine (HNB.out _ HG1.out).mono ?_; rintro e w2 ⟨gB, c, rfl, hc1, hc2, hg2, hgB, hRm⟩; have HG2 := Lib.hid (grown_trans HG1.out hg2); have Hc1 := Lib.hid hc1; have Hc2 := Lib.hid hc2; have HRm := Lib.hid (fun (W : World) (hW : w2.grownBy W none) => And.intro (Nat.lt_of_lt_of_le hgB hW.size) (hRm.grown hgB hW)); clear hg2 hc1 hc2 hgB hRm)
      | (go_at_call 15; refine (HTx.out _ _ _ HG2.out (by have := (HRm.out _ (grown_refl _ _)).2.ints (HRm.out _ (grown_refl _ _)).1 (show l.length ≤ c by rw [← HN.out]; have := Hc1.out; omega); rwa [← HN.out] at this)).mono ?_; rintro e w3 ⟨hg3, rfl⟩; have HG23 := Lib.hid hg3; have HG3 := Lib.hid (grown_trans HG2.out hg3); clear hg3)
      | (go_at_call 16; refine (HKp.out gB c _ Hc1.out Hc2.out (HRm.out _ HG23.out).1 (HRm.out _ HG23.out).2 HG3.out).mono ?_; rintro e w4 ⟨rfl, hg4⟩; have HG4 := Lib.hid (grown_trans HG3.out hg4); clear hg4)
      | (go_at_call 17; refine (HRt.out _ HG4.out).mono ?_; rintro e w5 ⟨rfl, hw5⟩; rw [hw5]; clear hw5)
      | (go_at_call 10; refine (HNm.out _ HG4.out).mono ?_; rintro e w6 ⟨rfl, hg6⟩; have HG6 := Lib.hid (grown_trans HG4.out hg6); clear hg6))
    go_ret
    exact ⟨rfl, HG6.out⟩
end Go.Proofs.YtpjhkmdlegjdaaaDoor
