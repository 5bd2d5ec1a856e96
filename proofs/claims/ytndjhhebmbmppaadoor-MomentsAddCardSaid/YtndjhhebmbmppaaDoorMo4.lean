/- The walk of the law MomentsAdd, over what is asked of package moments. -/
import Derived.Test.YtndjhhebmbmppaaDoorMo0
namespace Go.Proofs.YtndjhhebmbmppaaDoor
open Go.RowKit

theorem cal_text_lt {t : Nat} (h : t ≤ 253402300799) : ∀ x ∈ Cal.text (Cal.of t), x < 256 := by
  obtain ⟨⟨⟨a1, a2⟩, ⟨a3, a4⟩, ⟨a5, a6⟩, a7, a8, a9⟩, _⟩ := Cal.of_right h
  have a10 := (Cal.days_pos (y := (Cal.of t).Y) a3 a4).2
  intro x hx
  simp only [Cal.text, Cal.two, List.cons_append, List.nil_append, List.mem_cons, List.not_mem_nil, or_false] at hx
  omega
theorem less_of {t u : Nat} (ht : t ≤ 253402300799) (hu : u ≤ 253402300799) : Op.bytesLess (strOf (Cal.text (Cal.of t))).toList (strOf (Cal.text (Cal.of u))).toList = decide (t < u) := by
  rw [str_less, strL_strOf (cal_text_lt ht), strL_strOf (cal_text_lt hu), Cal.body_lt ht hu]

set_option maxRecDepth 100000 in
set_option maxHeartbeats 2000000 in
theorem momentsAdd_any (A : Nat → Addr) (t s u : Int) (ht : inI t) (hs : inI s) (hu : inI u) (w : World) (hE : AllErrs w A) (hP : MoPut A w) (hW : MoWd w) (hAd : MoAdd A w) (hLe : MoLeap w) (hDa : MoDays w) :
    Calls Tryd.prog 6 #[.int .i64 t, .int .i64 s, .int .i64 u] w fun e w' => e = .returned (.bool true) ∧ w.grownBy w' none := by
  have HAl := Lib.hid (alive6_any A w hP hW)
  have HE1 := Lib.hid (fun W hW => num_of A 1 (by decide) W (hE.grown (w' := W) hW))
  have e1 : errOf A 1 = errV A 1 := rfl
  rw [e1] at HE1
  have hle := fun W hW => hLe t W ht hW
  have hda := fun W hW => hDa t u W ht hu hW
  have had := fun W hW => hAd t s W ht hs hW
  have hrl := fun W => refLeap_any t W
  have hrd := fun W => refDays_any t u W
  generalize Cal.leapI t = L at *
  generalize Cal.daysI t u = dd at *
  have HLe := Lib.hid hle
  have HDa := Lib.hid hda
  have HRL := Lib.hid hrl
  have HRD := Lib.hid hrd
  have HP := Lib.hid hP
  have HL : Hid ((L != L) = false) := Lib.hid (by cases L <;> rfl)
  have HD : Hid ((((dd : Nat) : Int) != ((dd : Nat) : Int)) = false) := Lib.hid (by simp)
  obtain ⟨t1, t2⟩ := ht
  obtain ⟨s1, s2⟩ := hs
  clear hle hda hrl hrd hP hW hAd hLe hDa hu hE e1
  by_cases hg : isM t ∧ isM (t + s)
  · simp only [if_pos hg] at had
    have HAd := Lib.hid had
    obtain ⟨⟨g1, g2⟩, g3, g4⟩ := id hg
    have hp1 := fun W hW => HP.out t W ⟨t1, t2⟩ hW
    have hp2 := fun W hW => HP.out (t + s) W ⟨by omega, by omega⟩ hW
    simp only [if_pos hg.1] at hp1
    simp only [if_pos hg.2] at hp2
    obtain ⟨T, hT⟩ : ∃ T : Nat, (T : Int) = t := ⟨t.toNat, by omega⟩
    obtain ⟨U, hU⟩ : ∃ U : Nat, (U : Int) = t + s := ⟨(t + s).toNat, by omega⟩
    have hlt := less_of (t := T) (u := U) (by omega) (by omega)
    rw [show (t + s).toNat = U by omega] at hp2
    rw [show t.toNat = T by omega] at hp1
    rw [show decide (T < U) = decide (t < t + s) by rw [decide_eq_decide]; omega] at hlt
    generalize Cal.text (Cal.of T) = B1 at *
    generalize Cal.text (Cal.of U) = B2 at *
    have HP1 := Lib.hid hp1
    have HP2 := Lib.hid hp2
    obtain ⟨S1, hS1⟩ : ∃ S, S = strOf B1 := ⟨_, rfl⟩
    obtain ⟨S2, hS2⟩ : ∃ S, S = strOf B2 := ⟨_, rfl⟩
    rw [← hS1, ← hS2] at hlt
    have HS1 := Lib.hid hS1
    have HS2 := Lib.hid hS2
    have HLt := Lib.hid hlt
    have HBq : Hid ((Op.bytesLess S1.toList S2.toList == decide (t < t + s)) = true) := Lib.hid (by rw [hlt]; simp)
    clear had hg hp1 hp2 hT hU hS1 hS2 hlt HP
    go_enter Tryd.func6, Tryd.ntmps6
    go_wp2_with (first
      | (go_at_call 7; refine HAl.out.mono ?_; rintro e w1 ⟨rfl, hg1⟩; have HG1 := Lib.hid hg1; clear hg1)
      | (go_at_call 21; refine (HDa.out _ HG1.out).mono ?_; rintro e w2 ⟨hg2, rfl⟩; have HG2 := Lib.hid (grown_trans HG1.out hg2); clear hg2)
      | (go_at_call 22; refine (HRD.out _).mono ?_; rintro e w3 ⟨rfl, hg3⟩; have HG3 := Lib.hid (grown_trans HG2.out hg3); clear hg3)
      | (go_at_call 23; refine (HLe.out _ HG3.out).mono ?_; rintro e w4 ⟨hg4, rfl⟩; have HG4 := Lib.hid (grown_trans HG3.out hg4); clear hg4)
      | (go_at_call 24; refine (HRL.out _).mono ?_; rintro e w5 ⟨rfl, hw5⟩; have hw6 := hw5.symm; subst hw6; clear hw5)
      | (go_at_call 25; refine (HAd.out _ HG4.out).mono ?_; rintro e w6 ⟨hg6, rfl⟩; have HG6 := Lib.hid (grown_trans HG4.out hg6); clear hg6)
      | (go_at_call 9; with_reducible refine (HP1.out _ HG6.out).mono ?_; rintro e w7 ⟨hg7, a7, c7, rfl, hb7⟩; have HG7 := Lib.hid (grown_trans HG6.out hg7); have HB7 := Lib.hid hb7; clear hg7 hb7)
      | (go_at_call 9; refine (HP2.out _ HG7.out).mono ?_; rintro e w8 ⟨hg8, a8, c8, rfl, hb8⟩; have HG8 := Lib.hid (grown_trans HG7.out hg8); have cv1 := conv_bytes (P := Tryd.prog) (HB7.out.grown hg8) 29 5 9 Tryd.underlying29 Tryd.underlying5 Tryd.underlying9; have cv2 := conv_bytes (P := Tryd.prog) hb8 29 5 9 Tryd.underlying29 Tryd.underlying5 Tryd.underlying9; rw [← HS1.out] at cv1; rw [← HS2.out] at cv2; clear hg8 hb8))
    go_ret
    exact ⟨retB2 (by simp [HBq.out]), HG8.out⟩
  · simp only [if_neg hg] at had
    have HAd := Lib.hid had
    have hcase : t < 0 ∨ (0 ≤ t ∧ 253402300799 < t) ∨ (0 ≤ t ∧ t ≤ 253402300799 ∧ 253402300799 < s) ∨ (0 ≤ t ∧ t ≤ 253402300799 ∧ s ≤ 253402300799 ∧ s < -253402300799) ∨ (0 ≤ t ∧ t ≤ 253402300799 ∧ s ≤ 253402300799 ∧ -253402300799 ≤ s ∧ t + s < 0) ∨ (0 ≤ t ∧ t ≤ 253402300799 ∧ s ≤ 253402300799 ∧ -253402300799 ≤ s ∧ 0 ≤ t + s ∧ 253402300799 < t + s) := by
      unfold isM at hg
      omega
    clear had hg HP
    rcases hcase with h1 | ⟨h1, h2⟩ | ⟨h1, h2, h3⟩ | ⟨h1, h2, h3, h4⟩ | ⟨h1, h2, h3, h4, h5⟩ | ⟨h1, h2, h3, h4, h5, h6⟩
    all_goals
      go_enter Tryd.func6, Tryd.ntmps6
      go_wp2_with (first
        | (go_at_call 7; refine HAl.out.mono ?_; rintro e w1 ⟨rfl, hg1⟩; have HG1 := Lib.hid hg1; clear hg1)
        | (go_at_call 21; refine (HDa.out _ HG1.out).mono ?_; rintro e w2 ⟨hg2, rfl⟩; have HG2 := Lib.hid (grown_trans HG1.out hg2); clear hg2)
        | (go_at_call 22; refine (HRD.out _).mono ?_; rintro e w3 ⟨rfl, hg3⟩; have HG3 := Lib.hid (grown_trans HG2.out hg3); clear hg3)
        | (go_at_call 23; refine (HLe.out _ HG3.out).mono ?_; rintro e w4 ⟨hg4, rfl⟩; have HG4 := Lib.hid (grown_trans HG3.out hg4); clear hg4)
        | (go_at_call 24; refine (HRL.out _).mono ?_; rintro e w5 ⟨rfl, hw5⟩; have hw6 := hw5.symm; subst hw6; clear hw5)
        | (go_at_call 25; refine (HAd.out _ HG4.out).mono ?_; rintro e w6 ⟨hg6, rfl⟩; have HG6 := Lib.hid (grown_trans HG4.out hg6); clear hg6)
        | (go_at_call 10; refine (HE1.out _ HG6.out).mono ?_; rintro e w7 ⟨rfl, hg7⟩; have HG7 := Lib.hid (grown_trans HG6.out hg7); clear hg7))
      go_ret
      exact ⟨rfl, HG7.out⟩
end Go.Proofs.YtndjhhebmbmppaaDoor
