/- The walk of the law WholeGet. -/
import Derived.Test.YtbbkhdgkpacjgaaDoorWr2
import Derived.Test.YtbbkhdgkpacjgaaDoorWr3
import Derived.Test.YtbbkhdgkpacjgaaDoorKp
namespace Go.Proofs.YtbbkhdgkpacjgaaDoor
open Go.RowKit

theorem wget_err {l : List Nat} {k : Nat} (h : Wh.get l = .error k) : k ≠ 0 ∧ k ≤ 28 := by
  rw [Wh.get] at h
  split at h
  · cases h; decide
  · split at h
    · cases h; decide
    · split at h <;> cases h
      decide

theorem wget_ok {l : List Nat} {n : Int} (hl : ∀ x ∈ l, x < 256) (h : Wh.get l = .ok n) : Wh.body n = l ∧ -9223372036854775808 ≤ n ∧ n ≤ 9223372036854775807 := by
  have h1 := Wh.get_ok hl h
  have h8 : l.length ≤ 8 := by
    rw [Wh.get] at h
    split at h
    · cases h
    · split at h
      · cases h
      · split at h
        · cases h
        · omega
  have := Wh.val_i64 hl h8
  rw [h1.2] at this
  exact ⟨h1.1, this⟩

set_option maxRecDepth 100000 in
set_option maxHeartbeats 2000000 in
theorem wholeGet_any (A : Nat → Addr) (v : Value) (l : List Nat) (least most : Int) (w : World) (hB : Bytes w v l) (h0 : Whole0 v) (hE : AllErrs w A) :
    Calls Tryd.prog 4 #[v, .int .i64 least, .int .i64 most] w fun e w' => e = .returned (.bool true) ∧ w.grownBy w' none := by
  have HAl := Lib.hid (alive4_any w)
  have HE := Lib.hid (fun W hW => hE.grown (w' := W) hW)
  have HB := Lib.hid hB
  have H0 := Lib.hid h0
  obtain ⟨hlt, va, sb, so, vc, rfl, _, _, _⟩ := hB
  have HLt := Lib.hid hlt
  obtain ⟨n, hn⟩ : ∃ n, n = l.length := ⟨_, rfl⟩
  have HN := Lib.hid hn
  rw [← hn] at HB H0 ⊢
  clear h0 hn hlt hE
  by_cases h100 : 100 < n
  · go_enter Tryd.func4, Tryd.ntmps4
    go_wp2_with (go_at_call 7; refine HAl.out.mono ?_; rintro e w1 ⟨rfl, hg1⟩; have HG1 := Lib.hid hg1; clear hg1)
    go_ret
    exact ⟨rfl, HG1.out⟩
  have HNB : Hid (∀ W, w.grownBy W none → Calls Tryd.prog 13 #[.slice va n vc] W fun e w' => ∃ g c, e = .returned (.slice (some ⟨g, 0, none⟩) n c) ∧ n + 6 ≤ c ∧ c ≤ maxLen ∧ W.grownBy w' none ∧ g < w'.heap.size ∧ Room w' g l) := Lib.hid (fun W hW => by
    have := numBytes_any _ l W (HB.out.grown hW) H0.out (by rw [← HN.out]; omega)
    rw [← HN.out] at this
    exact this.mono (by
      rintro e w' ⟨g, c, h1, h2, h3, _, ⟨cur, fr, h5⟩, h6, h7⟩
      exact ⟨g, c, h1, h2, h3, h6, blk_lt h5, h7⟩))
  have HKp : Hid (∀ g c (W : World), n + 6 ≤ c → c ≤ maxLen → g < W.heap.size → Room W g l → w.grownBy W none → Calls Tryd.prog 15 #[.slice (some ⟨g, 0, none⟩) n c, .slice va n vc] W fun e w' => ∃ v, e = .returned v ∧ W.grownBy w' none ∧ isV (.bool true) v w') := Lib.hid (fun g c W h1 h2 h3 h4 h5 => (kept_any g n c _ l W HN.out.symm h1 (by unfold maxLen at h2; omega) h3 h4 (HB.out.grown h5)).mono (by
    rintro e w' ⟨rfl, m, hm⟩
    exact ⟨_, rfl, by rw [hm]; exact grown_drewN (grown_refl _ _) _, rfl⟩))
  cases hg : Wh.get l with
  | error k =>
    obtain ⟨hk0, hk28⟩ := wget_err hg
    have hRG := fun W hW => refWGet_any (.slice va n vc) l W (HB.out.grown (w' := W) hW)
    rw [hg] at hRG
    have HRG : Hid (∀ W, w.grownBy W none → Calls Tryd.prog 14 #[.slice va n vc] W fun e w' => w' = W ∧ e = .returned (.tuple #[.int .i64 0, .int .i64 k])) := Lib.hid hRG
    have HNm := Lib.hid (fun W hW => num_of A k hk28 W (HE.out W hW))
    have hr : rangeOf l least most = (0, k) := by rw [rangeOf, hg]
    have HR := Lib.hid hr
    have HGt := Lib.hid hg
    have hek : errOf A k = errV A k := by rw [errOf, if_neg hk0]
    have HEk := Lib.hid hek
    have hki : (((k : Nat) : Int) == 0) = false := by simp; omega
    have hkb : (((k : Nat) : Int) != 0) = true := by simp; omega
    clear hg hRG hr hk0 hk28 hek
    go_enter Tryd.func4, Tryd.ntmps4
    go_wp2_with (first
      | (go_at_call 7; refine HAl.out.mono ?_; rintro e w1 ⟨rfl, hg1⟩; have HG1 := Lib.hid hg1; clear hg1)
      | (go_at_call 13; refine (HNB.out _ HG1.out).mono ?_; rintro e w2 ⟨gB, c, rfl, hc1, hc2, hg2, hgB, hRm⟩; have HG2 := Lib.hid (grown_trans HG1.out hg2); have Hc1 := Lib.hid hc1; have Hc2 := Lib.hid hc2; have HRm := Lib.hid (fun (W : World) (hW : w2.grownBy W none) => And.intro (Nat.lt_of_lt_of_le hgB hW.size) (hRm.grown hgB hW (by simp))); clear hg2 hc1 hc2 hgB hRm)
      | (go_at_call 9; refine (getErr_any A _ l k _ (by have := (HRm.out _ (grown_refl _ _)).2.bytes HLt.out (HRm.out _ (grown_refl _ _)).1 (show l.length ≤ c by rw [← HN.out]; have := Hc1.out; omega); rwa [← HN.out] at this) HGt.out (HE.out _ HG2.out)).mono ?_; rintro e w3 ⟨rfl, hg3⟩; have HG23 := Lib.hid hg3; have HG3 := Lib.hid (grown_trans HG2.out hg3); clear hg3)
      | (go_at_call 14; refine (HRG.out _ HG3.out).mono ?_; rintro e w4 ⟨hw4, rfl⟩; rw [hw4]; clear hw4))
    refine wg_regionErr _ A k gB c va vc n w3 _ _ rfl rfl rfl rfl rfl rfl rfl (fun W hW => by rw [← HEk.out]; exact (HNm.out W (grown_trans HG3.out hW)).mono (fun e w' ⟨h1, h2⟩ => ⟨_, h1, h2, rfl⟩)) (fun W hW => HKp.out gB c W Hc1.out Hc2.out (HRm.out W (grown_trans HG23.out hW)).1 (HRm.out W (grown_trans HG23.out hW)).2 (grown_trans HG3.out hW)) hki ⟨rfl, rfl, rfl, Nat.le_refl _, fun _ _ _ => rfl⟩ (fun us w5 hg5 => ?_)
    simp only [fill_cons, fill_nil, Act.put, List.setIfInBounds_toArray, List.set_cons_succ, List.set_cons_zero]
    have HG5 := Lib.hid (grown_trans HG3.out hg5)
    have HB5 : Hid (Bytes w5 (.slice (some ⟨gB, 0, none⟩) n c) l) := Lib.hid (by
      have hr := HRm.out w5 (grown_trans HG23.out hg5)
      have := hr.2.bytes HLt.out hr.1 (show l.length ≤ c by rw [← HN.out]; have := Hc1.out; omega)
      rwa [← HN.out] at this)
    clear hg5
    have HRn : Hid (Calls Tryd.prog 16 #[.slice (some ⟨gB, 0, none⟩) n c, .int .i64 least, .int .i64 most] w5 fun e w' => e = .returned (.tuple #[.int .i64 0, errV A k]) ∧ w5.grownBy w' none) := Lib.hid (by
      have := range_any A _ l least most w5 HB5.out (HE.out _ HG5.out)
      rw [HR.out] at this
      rw [← HEk.out]
      exact this)
    go_wp2_with (first
      | (go_at_call 16; refine HRn.out.mono ?_; rintro e w6 ⟨rfl, hg6⟩; have HG6 := Lib.hid (grown_trans HG5.out hg6); clear hg6)
      | (go_at_call 12; rw [← HEk.out]; refine (HNm.out _ HG6.out).mono ?_; rintro e w7 ⟨rfl, hg7⟩; have HG7 := Lib.hid (grown_trans HG6.out hg7); clear hg7))
    go_ret
    exact ⟨rfl, HG7.out⟩
  | ok z =>
    obtain ⟨hbl, hz1, hz2⟩ := wget_ok HLt.out hg
    have hRG := fun W hW => refWGet_any (.slice va n vc) l W (HB.out.grown (w' := W) hW)
    rw [hg] at hRG
    have HRG : Hid (∀ W, w.grownBy W none → Calls Tryd.prog 14 #[.slice va n vc] W fun e w' => w' = W ∧ e = .returned (.tuple #[.int .i64 z, .int .i64 0])) := Lib.hid hRG
    have HP : Hid (∀ W, Calls Tryd.prog 8 #[.int .i64 z] W fun e w' => ∃ v, e = .returned v ∧ W.grownBy w' none ∧ isB l v w') := Lib.hid (fun W => (put_any z hz1 hz2 W).mono (by
      rintro e w' ⟨h1, h2, h3⟩
      rw [hbl] at h1 h3
      exact ⟨_, h1, h2, h3⟩))
    have HNm := Lib.hid (fun W hW => num_of A 0 (by decide) W (HE.out W hW))
    have HN1 := Lib.hid (fun W hW => num_of A 1 (by decide) W (HE.out W hW))
    have HGt := Lib.hid hg
    have e0 : errOf A 0 = .nilIface := rfl
    have e1 : errOf A 1 = errV A 1 := rfl
    obtain ⟨S, hS⟩ : ∃ S, S = strOf l := ⟨_, rfl⟩
    have HS := Lib.hid hS
    obtain ⟨rz, rk, hrz⟩ : ∃ rz rk, (if z < least ∨ most < z then ((0 : Int), 1) else (z, 0)) = (rz, rk) := ⟨_, _, rfl⟩
    have hr : rangeOf l least most = (rz, rk) := by rw [rangeOf, hg]; exact hrz
    have HR := Lib.hid hr
    clear hg hRG hr hz1 hz2 hbl hS
    go_enter Tryd.func4, Tryd.ntmps4
    go_wp2_with (first
      | (go_at_call 7; refine HAl.out.mono ?_; rintro e w1 ⟨rfl, hg1⟩; have HG1 := Lib.hid hg1; clear hg1)
      | (go_at_call 13; refine (HNB.out _ HG1.out).mono ?_; rintro e w2 ⟨gB, c, rfl, hc1, hc2, hg2, hgB, hRm⟩; have HG2 := Lib.hid (grown_trans HG1.out hg2); have Hc1 := Lib.hid hc1; have Hc2 := Lib.hid hc2; have HRm := Lib.hid (fun (W : World) (hW : w2.grownBy W none) => And.intro (Nat.lt_of_lt_of_le hgB hW.size) (hRm.grown hgB hW (by simp))); clear hg2 hc1 hc2 hgB hRm)
      | (go_at_call 9; refine (getOk_any A _ l z _ (by have := (HRm.out _ (grown_refl _ _)).2.bytes HLt.out (HRm.out _ (grown_refl _ _)).1 (show l.length ≤ c by rw [← HN.out]; have := Hc1.out; omega); rwa [← HN.out] at this) HGt.out (HE.out _ HG2.out)).mono ?_; rintro e w3 ⟨rfl, hg3⟩; have HG23 := Lib.hid hg3; have HG3 := Lib.hid (grown_trans HG2.out hg3); clear hg3)
      | (go_at_call 14; refine (HRG.out _ HG3.out).mono ?_; rintro e w4 ⟨hw4, rfl⟩; rw [hw4]; clear hw4))
    refine wg_regionOk _ z gB c va vc n S l w3 _ _ rfl rfl rfl rfl rfl rfl rfl (fun W hW => (HNm.out W (grown_trans HG3.out hW)).mono (fun e w' ⟨h1, h2⟩ => ⟨_, h1, h2, rfl⟩)) (fun W hW => HKp.out gB c W Hc1.out Hc2.out (HRm.out W (grown_trans HG23.out hW)).1 (HRm.out W (grown_trans HG23.out hW)).2 (grown_trans HG3.out hW)) (fun W hW => HP.out W) (fun W hW => by rw [HS.out]; exact conv_bytes (HB.out.grown (grown_trans HG3.out hW)) _ 5 _ Tryd.underlying23 Tryd.underlying5 Tryd.underlying9) (fun W x hx => by rw [HS.out]; exact conv_bytes hx _ 5 _ Tryd.underlying23 Tryd.underlying5 Tryd.underlying9) ⟨rfl, rfl, rfl, Nat.le_refl _, fun _ _ _ => rfl⟩ (fun us w5 hg5 => ?_)
    simp only [fill_cons, fill_nil, Act.put, List.setIfInBounds_toArray, List.set_cons_succ, List.set_cons_zero]
    have HG5 := Lib.hid (grown_trans HG3.out hg5)
    have HB5 : Hid (Bytes w5 (.slice (some ⟨gB, 0, none⟩) n c) l) := Lib.hid (by
      have hr := HRm.out w5 (grown_trans HG23.out hg5)
      have := hr.2.bytes HLt.out hr.1 (show l.length ≤ c by rw [← HN.out]; have := Hc1.out; omega)
      rwa [← HN.out] at this)
    clear hg5
    have HRn : Hid (Calls Tryd.prog 16 #[.slice (some ⟨gB, 0, none⟩) n c, .int .i64 least, .int .i64 most] w5 fun e w' => e = .returned (.tuple #[.int .i64 rz, errOf A rk]) ∧ w5.grownBy w' none) := Lib.hid (by
      have := range_any A _ l least most w5 HB5.out (HE.out _ HG5.out)
      rw [HR.out] at this
      exact this)
    by_cases hin : z < least ∨ most < z
    · rw [if_pos hin] at hrz
      cases hrz
      rcases hin with hin | hin
      · go_wp2_with (first
          | (go_at_call 16; refine HRn.out.mono ?_; rintro e w6 ⟨rfl, hg6⟩; have HG6 := Lib.hid (grown_trans HG5.out hg6); clear hg6)
          | (go_at_call 12; refine (HN1.out _ HG6.out).mono ?_; rintro e w7 ⟨rfl, hg7⟩; have HG7 := Lib.hid (grown_trans HG6.out hg7); clear hg7))
        go_ret
        exact ⟨rfl, HG7.out⟩
      · by_cases hin2 : z < least
        · go_wp2_with (first
            | (go_at_call 16; refine HRn.out.mono ?_; rintro e w6 ⟨rfl, hg6⟩; have HG6 := Lib.hid (grown_trans HG5.out hg6); clear hg6)
            | (go_at_call 12; refine (HN1.out _ HG6.out).mono ?_; rintro e w7 ⟨rfl, hg7⟩; have HG7 := Lib.hid (grown_trans HG6.out hg7); clear hg7))
          go_ret
          exact ⟨rfl, HG7.out⟩
        · go_wp2_with (first
            | (go_at_call 16; refine HRn.out.mono ?_; rintro e w6 ⟨rfl, hg6⟩; have HG6 := Lib.hid (grown_trans HG5.out hg6); clear hg6)
            | (go_at_call 12; refine (HN1.out _ HG6.out).mono ?_; rintro e w7 ⟨rfl, hg7⟩; have HG7 := Lib.hid (grown_trans HG6.out hg7); clear hg7))
          go_ret
          exact ⟨rfl, HG7.out⟩
    · rw [if_neg hin] at hrz
      cases hrz
      have hi1 : ¬ z < least := fun h => hin (.inl h)
      have hi2 : ¬ most < z := fun h => hin (.inr h)
      clear hin
      go_wp2_with (go_at_call 16; refine HRn.out.mono ?_; rintro e w6 ⟨rfl, hg6⟩; have HG6 := Lib.hid (grown_trans HG5.out hg6); clear hg6)
      go_ret
      exact ⟨rfl, HG6.out⟩
end Go.Proofs.YtbbkhdgkpacjgaaDoor
