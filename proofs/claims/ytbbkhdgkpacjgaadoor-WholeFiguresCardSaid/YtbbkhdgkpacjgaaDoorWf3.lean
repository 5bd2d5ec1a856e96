/- The walk of the law WholeFigures. -/
import Derived.Test.YtbbkhdgkpacjgaaDoorWf2
import Derived.Test.YtbbkhdgkpacjgaaDoorWp5
import Derived.Test.YtbbkhdgkpacjgaaDoorNm3
namespace Go.Proofs.YtbbkhdgkpacjgaaDoor
open Go.RowKit

set_option maxRecDepth 100000 in
set_option maxHeartbeats 2000000 in
theorem wholeFigures_any (A : Nat → Addr) (n : Int) (h2 : n ≤ 9223372036854775807) (s : ByteArray) (tp : TypeId) (p : Value) (w : World) (hF : Figs w tp p) (hE : AllErrs w A) :
    Calls Tryd.prog 6 #[.int .i64 n, .string s] w fun e w' => e = .returned (.bool true) ∧ w.grownBy w' none := by
  have HAl := Lib.hid (alive4_any w)
  have HE := Lib.hid (fun W hW => hE.grown (w' := W) hW)
  have HF := Lib.hid (fun W hW => hF.grown (w' := W) hW)
  have HNm := Lib.hid (fun W hW => num_of A 4 (by decide) W (hE.grown (w' := W) hW))
  have e4 : errOf A 4 = errV A 4 := rfl
  have e0 : errOf A 0 = .nilIface := rfl
  obtain ⟨m, hm⟩ : ∃ m, m = s.size := ⟨_, rfl⟩
  by_cases h100 : 100 < s.size
  · clear hF hE
    go_enter Tryd.func6, Tryd.ntmps6
    go_wp2_with (go_at_call 7; refine HAl.out.mono ?_; rintro e w1 ⟨rfl, hg1⟩; have HG1 := Lib.hid hg1; clear hg1)
    go_ret
    exact ⟨rfl, HG1.out⟩
  have HS := Lib.hid (fun W hW => serial_any n (by omega) tp p W (HF.out W hW))
  have HFs := Lib.hid (fun W hW => figures_any A s tp p W (HF.out W hW) (HE.out W hW))
  have HRs := Lib.hid (fun W => refFigures_any s W)
  have hst : strL (strOf (serL n)) = serL n := strL_strOf (serL_lt n (by omega))
  have hFt := fun W hW => figures_any A (strOf (serL n)) tp p W (HF.out W hW) (HE.out W hW)
  rw [hst] at hFt
  obtain ⟨a, k, hak⟩ : ∃ a k, figRes (serL n) = (a, k) := ⟨_, _, rfl⟩
  rw [hak] at hFt
  have HFt := Lib.hid hFt
  have hres : (Wh.figs (strL s) = true ∧ ∃ q : Nat, figRes (strL s) = ((q : Int), 0) ∧ figOut (strL s) = ((q : Int), true)) ∨ (Wh.figs (strL s) = false ∧ figRes (strL s) = (0, 4) ∧ figOut (strL s) = (0, false)) := by
    cases hf : Wh.figs (strL s)
    · right
      exact ⟨rfl, by rw [figRes, if_neg (by rw [hf]; simp)], by rw [figOut, if_neg (by rw [hf]; simp)]⟩
    · left
      exact ⟨rfl, Wh.pval (strL s), by rw [figRes, if_pos hf], by rw [figOut, if_pos hf]⟩
  have hser : ∀ u : Nat, n = u → u < 9223372036854775808 → ∀ W, Calls Tryd.prog 20 #[.int .i64 n] W fun e w' => e = .returned (.string (strOf (serL n))) ∧ W.grownBy w' none := fun u hu hu2 W => by
    subst hu
    have := refSerial_any u hu2 W
    rw [serL, if_neg (by omega), Int.toNat_natCast]
    exact this
  have hmid : 0 ≤ n → n < 1000000000000000000 → a = n ∧ k = 0 := fun h0 h18 => by
    obtain ⟨k1, k2⟩ := Wh.figs_dig (n := n.toNat) (by omega)
    rw [serL, if_neg (by omega), figRes, if_pos k1, k2, Int.toNat_of_nonneg h0] at hak
    cases hak
    exact ⟨rfl, rfl⟩
  have hneg : n < 0 → strOf (serL n) = ⟨#[]⟩ := fun h => by rw [serL, if_pos h]; rfl
  generalize strOf (serL n) = t at *
  have htt : (t.toList != t.toList) = false := by rw [bne, beq_self_eq_true]; rfl
  have Hmid := Lib.hid hmid
  have Hser := Lib.hid hser
  clear hst hFt hak hF hE hmid hser hm
  rcases hres with ⟨hfi, q, hr1, hr2⟩ | ⟨hfi, hr1, hr2⟩
  · rw [hr1] at HFs
    rw [hr2] at HRs
    clear hr1 hr2 hfi
    by_cases hn : n < 0
    · rw [hneg hn] at HS HFt
      clear htt hneg
      go_enter Tryd.func6, Tryd.ntmps6
      go_wp2_with (first
        | (go_at_call 7; refine HAl.out.mono ?_; rintro e w1 ⟨rfl, hg1⟩; have HG1 := Lib.hid hg1; clear hg1)
        | (go_at_call 19; refine (HS.out _ HG1.out).mono ?_; rintro e w2 ⟨rfl, hg2⟩; have HG2 := Lib.hid (grown_trans HG1.out hg2); clear hg2)
        | (go_at_call 21; with_reducible refine (HFt.out _ HG2.out).mono ?_; rintro e w3 ⟨rfl, hg3⟩; have HG3 := Lib.hid (grown_trans HG2.out hg3); clear hg3)
        | (go_at_call 21; with_reducible refine (HFs.out _ HG3.out).mono ?_; rintro e w4 ⟨rfl, hg4⟩; have HG4 := Lib.hid (grown_trans HG3.out hg4); clear hg4)
        | (go_at_call 22; refine (HRs.out _).mono ?_; rintro e w5 ⟨rfl, hg5⟩; have HG5 := Lib.hid (grown_trans HG4.out hg5); clear hg5))
      go_ret
      exact ⟨rfl, HG5.out⟩
    · obtain ⟨u, hu⟩ : ∃ u : Nat, n = u := ⟨n.toNat, by omega⟩
      have HsU := Lib.hid (Hser.out u hu (by omega))
      clear hneg
      by_cases h18 : n < 1000000000000000000
      · obtain ⟨rfl, rfl⟩ := Hmid.out (by omega) h18
        clear hu
        go_enter Tryd.func6, Tryd.ntmps6
        go_wp2_with (first
          | (go_at_call 7; refine HAl.out.mono ?_; rintro e w1 ⟨rfl, hg1⟩; have HG1 := Lib.hid hg1; clear hg1)
          | (go_at_call 19; refine (HS.out _ HG1.out).mono ?_; rintro e w2 ⟨rfl, hg2⟩; have HG2 := Lib.hid (grown_trans HG1.out hg2); clear hg2)
          | (go_at_call 20; refine (HsU.out _).mono ?_; rintro e w25 ⟨rfl, hg25⟩; have HG25 := Lib.hid (grown_trans HG2.out hg25); clear hg25)
          | (go_at_call 21; with_reducible refine (HFt.out _ HG25.out).mono ?_; rintro e w3 ⟨rfl, hg3⟩; have HG3 := Lib.hid (grown_trans HG25.out hg3); clear hg3)
          | (go_at_call 21; with_reducible refine (HFs.out _ HG3.out).mono ?_; rintro e w4 ⟨rfl, hg4⟩; have HG4 := Lib.hid (grown_trans HG3.out hg4); clear hg4)
          | (go_at_call 22; refine (HRs.out _).mono ?_; rintro e w5 ⟨rfl, hg5⟩; have HG5 := Lib.hid (grown_trans HG4.out hg5); clear hg5))
        go_ret
        exact ⟨rfl, HG5.out⟩
      · clear hu
        go_enter Tryd.func6, Tryd.ntmps6
        go_wp2_with (first
          | (go_at_call 7; refine HAl.out.mono ?_; rintro e w1 ⟨rfl, hg1⟩; have HG1 := Lib.hid hg1; clear hg1)
          | (go_at_call 19; refine (HS.out _ HG1.out).mono ?_; rintro e w2 ⟨rfl, hg2⟩; have HG2 := Lib.hid (grown_trans HG1.out hg2); clear hg2)
          | (go_at_call 20; refine (HsU.out _).mono ?_; rintro e w25 ⟨rfl, hg25⟩; have HG25 := Lib.hid (grown_trans HG2.out hg25); clear hg25)
          | (go_at_call 21; with_reducible refine (HFt.out _ HG25.out).mono ?_; rintro e w3 ⟨rfl, hg3⟩; have HG3 := Lib.hid (grown_trans HG25.out hg3); clear hg3)
          | (go_at_call 21; with_reducible refine (HFs.out _ HG3.out).mono ?_; rintro e w4 ⟨rfl, hg4⟩; have HG4 := Lib.hid (grown_trans HG3.out hg4); clear hg4)
          | (go_at_call 22; refine (HRs.out _).mono ?_; rintro e w5 ⟨rfl, hg5⟩; have HG5 := Lib.hid (grown_trans HG4.out hg5); clear hg5))
        go_ret
        exact ⟨rfl, HG5.out⟩
  · rw [hr1] at HFs
    rw [hr2] at HRs
    clear hr1 hr2 hfi
    by_cases hn : n < 0
    · rw [hneg hn] at HS HFt
      clear htt hneg
      go_enter Tryd.func6, Tryd.ntmps6
      go_wp2_with (first
        | (go_at_call 7; refine HAl.out.mono ?_; rintro e w1 ⟨rfl, hg1⟩; have HG1 := Lib.hid hg1; clear hg1)
        | (go_at_call 19; refine (HS.out _ HG1.out).mono ?_; rintro e w2 ⟨rfl, hg2⟩; have HG2 := Lib.hid (grown_trans HG1.out hg2); clear hg2)
        | (go_at_call 21; with_reducible refine (HFt.out _ HG2.out).mono ?_; rintro e w3 ⟨rfl, hg3⟩; have HG3 := Lib.hid (grown_trans HG2.out hg3); clear hg3)
        | (go_at_call 21; with_reducible refine (HFs.out _ HG3.out).mono ?_; rintro e w4 ⟨rfl, hg4⟩; have HG4 := Lib.hid (grown_trans HG3.out hg4); clear hg4)
        | (go_at_call 22; refine (HRs.out _).mono ?_; rintro e w5 ⟨rfl, hg5⟩; have HG5 := Lib.hid (grown_trans HG4.out hg5); clear hg5)
        | (go_at_call 12; refine (HNm.out _ HG5.out).mono ?_; rintro e w6 ⟨rfl, hg6⟩; have HG6 := Lib.hid (grown_trans HG5.out hg6); clear hg6))
      go_ret
      exact ⟨rfl, HG6.out⟩
    · obtain ⟨u, hu⟩ : ∃ u : Nat, n = u := ⟨n.toNat, by omega⟩
      have HsU := Lib.hid (Hser.out u hu (by omega))
      clear hneg
      by_cases h18 : n < 1000000000000000000
      · obtain ⟨rfl, rfl⟩ := Hmid.out (by omega) h18
        clear hu
        go_enter Tryd.func6, Tryd.ntmps6
        go_wp2_with (first
          | (go_at_call 7; refine HAl.out.mono ?_; rintro e w1 ⟨rfl, hg1⟩; have HG1 := Lib.hid hg1; clear hg1)
          | (go_at_call 19; refine (HS.out _ HG1.out).mono ?_; rintro e w2 ⟨rfl, hg2⟩; have HG2 := Lib.hid (grown_trans HG1.out hg2); clear hg2)
          | (go_at_call 20; refine (HsU.out _).mono ?_; rintro e w25 ⟨rfl, hg25⟩; have HG25 := Lib.hid (grown_trans HG2.out hg25); clear hg25)
          | (go_at_call 21; with_reducible refine (HFt.out _ HG25.out).mono ?_; rintro e w3 ⟨rfl, hg3⟩; have HG3 := Lib.hid (grown_trans HG25.out hg3); clear hg3)
          | (go_at_call 21; with_reducible refine (HFs.out _ HG3.out).mono ?_; rintro e w4 ⟨rfl, hg4⟩; have HG4 := Lib.hid (grown_trans HG3.out hg4); clear hg4)
          | (go_at_call 22; refine (HRs.out _).mono ?_; rintro e w5 ⟨rfl, hg5⟩; have HG5 := Lib.hid (grown_trans HG4.out hg5); clear hg5)
          | (go_at_call 12; refine (HNm.out _ HG5.out).mono ?_; rintro e w6 ⟨rfl, hg6⟩; have HG6 := Lib.hid (grown_trans HG5.out hg6); clear hg6))
        go_ret
        exact ⟨rfl, HG6.out⟩
      · clear hu
        go_enter Tryd.func6, Tryd.ntmps6
        go_wp2_with (first
          | (go_at_call 7; refine HAl.out.mono ?_; rintro e w1 ⟨rfl, hg1⟩; have HG1 := Lib.hid hg1; clear hg1)
          | (go_at_call 19; refine (HS.out _ HG1.out).mono ?_; rintro e w2 ⟨rfl, hg2⟩; have HG2 := Lib.hid (grown_trans HG1.out hg2); clear hg2)
          | (go_at_call 20; refine (HsU.out _).mono ?_; rintro e w25 ⟨rfl, hg25⟩; have HG25 := Lib.hid (grown_trans HG2.out hg25); clear hg25)
          | (go_at_call 21; with_reducible refine (HFt.out _ HG25.out).mono ?_; rintro e w3 ⟨rfl, hg3⟩; have HG3 := Lib.hid (grown_trans HG25.out hg3); clear hg3)
          | (go_at_call 21; with_reducible refine (HFs.out _ HG3.out).mono ?_; rintro e w4 ⟨rfl, hg4⟩; have HG4 := Lib.hid (grown_trans HG3.out hg4); clear hg4)
          | (go_at_call 22; refine (HRs.out _).mono ?_; rintro e w5 ⟨rfl, hg5⟩; have HG5 := Lib.hid (grown_trans HG4.out hg5); clear hg5)
          | (go_at_call 12; refine (HNm.out _ HG5.out).mono ?_; rintro e w6 ⟨rfl, hg6⟩; have HG6 := Lib.hid (grown_trans HG5.out hg6); clear hg6))
        go_ret
        exact ⟨rfl, HG6.out⟩
end Go.Proofs.YtbbkhdgkpacjgaaDoor
