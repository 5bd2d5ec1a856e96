/- The walk of the law WholeTruth. -/
import Derived.Test.YtbbkhdgkpacjgaaDoorWp5
import Derived.Test.YtbbkhdgkpacjgaaDoorNm3
namespace Go.Proofs.YtbbkhdgkpacjgaaDoor
open Go.RowKit

set_option maxRecDepth 100000 in
set_option maxHeartbeats 1000000 in
theorem wholeTruth_any (A : Nat → Addr) (v : Value) (is : Bool) (l : List Nat) (w : World) (hB : Bytes w v l) (hE : AllErrs w A) :
    Calls Tryd.prog 5 #[v, .bool is] w fun e w' => e = .returned (.bool true) ∧ w.grownBy w' none := by
  have HAl := Lib.hid (alive4_any w)
  have HE := Lib.hid (fun W hW => hE.grown (w' := W) hW)
  obtain ⟨b, k, hbk⟩ : ∃ b k, isTrue l = (b, k) := ⟨_, _, rfl⟩
  have hIs := fun (W : World) (hW : w.grownBy W none) => isTrue_any A v l W (hB.grown hW) (hE.grown hW)
  rw [hbk] at hIs
  have HBk : Hid (∀ (a : Option Addr) (W : World), w.grownBy W none → Bytes W (.slice a 1 1) [if is then 255 else 0] → Calls Tryd.prog 17 #[.slice a 1 1] W fun e w' => e = .returned (.tuple #[.bool is, .nilIface]) ∧ W.grownBy w' none) := Lib.hid (fun a W hW hb => by
    have := isTrue_any A _ _ W hb (hE.grown hW)
    cases is
    · exact this
    · exact this)
  have HTr := Lib.hid (fun W => truth_any is W)
  have HNm := Lib.hid (fun k hk W hW => num_of A k hk W (hE.grown (w' := W) hW))
  have e0 : errOf A 0 = .nilIface := rfl
  have e2 : errOf A 2 = errV A 2 := rfl
  have e4 : errOf A 4 = errV A 4 := rfl
  have his : (is != is) = false := by cases is <;> rfl
  have his2 : (is == is) = true := by cases is <;> rfl
  obtain ⟨hlt, a, sb, so, c, rfl, hc, ha, hcell⟩ := hB
  obtain ⟨n, hn⟩ : ∃ n, n = l.length := ⟨_, rfl⟩
  rw [← hn] at hIs ⊢
  have HIs : Hid (∀ W, w.grownBy W none → Calls Tryd.prog 17 #[.slice a n c] W fun e w' => e = .returned (.tuple #[.bool b, errOf A k]) ∧ W.grownBy w' none) := Lib.hid hIs
  clear hIs
  by_cases h100 : 100 < n
  · clear hlt ha hcell hbk hn hE
    go_enter Tryd.func5, Tryd.ntmps5
    go_wp2_with (go_at_call 7; refine HAl.out.mono ?_; rintro e w1 ⟨rfl, hg1⟩; have HG1 := Lib.hid hg1; clear hg1)
    go_ret
    exact ⟨rfl, HG1.out⟩
  · rcases l with _ | ⟨x, _ | ⟨y, r⟩⟩
    · clear hlt ha hcell h100 hE
      obtain rfl : n = 0 := hn
      cases hbk
      go_enter Tryd.func5, Tryd.ntmps5
      go_wp2_with (first
        | (go_at_call 7; refine HAl.out.mono ?_; rintro e w1 ⟨rfl, hg1⟩; have HG1 := Lib.hid hg1; clear hg1)
        | (go_at_call 18; refine (HTr.out _).mono ?_; rintro e w2 ⟨rfl, hg2, hb2⟩; have HG2 := Lib.hid hg2; have HB2 := Lib.hid hb2; clear hg2 hb2)
        | (go_at_call 17; with_reducible refine (HBk.out _ _ (grown_trans HG1.out HG2.out) HB2.out).mono ?_; rintro e w3 ⟨rfl, hg3⟩; have HG3 := Lib.hid (grown_trans (grown_trans HG1.out HG2.out) hg3); clear hg3)
        | (go_at_call 17; with_reducible refine (HIs.out _ (grown_trans HG3.out HG2.out)).mono ?_; rintro e w4 ⟨rfl, hg4⟩; have HG4 := Lib.hid (grown_trans (grown_trans HG3.out HG2.out) hg4); clear hg4)
        | (go_at_call 12; refine (HNm.out 2 (by decide) _ HG4.out).mono ?_; rintro e w5 ⟨rfl, hg5⟩; have HG5 := Lib.hid (grown_trans HG4.out hg5); clear hg5))
      go_ret
      exact ⟨rfl, HG5.out⟩
    · obtain ⟨rfl, ha2⟩ := ha (by simp)
      have Hc0 : Hid (∀ W, w.grownBy W none → W.cell? ⟨sb, so, none⟩ = some (.int .u8 (x : Nat))) := Lib.hid (fun W hW => by
        rw [World.cell?_of_block (hW.block _ ha2 (by simp))]; exact hcell 0 (by simp))
      have hx := hlt x (by simp)
      obtain rfl : n = 1 := hn
      clear hlt ha hcell h100 hE
      by_cases h0 : x = 0
      · subst h0
        cases hbk
        go_enter Tryd.func5, Tryd.ntmps5
        go_wp2_with (first
          | (go_at_call 7; refine HAl.out.mono ?_; rintro e w1 ⟨rfl, hg1⟩; have HG1 := Lib.hid hg1; clear hg1)
          | (go_at_call 18; refine (HTr.out _).mono ?_; rintro e w2 ⟨rfl, hg2, hb2⟩; have HG2 := Lib.hid hg2; have HB2 := Lib.hid hb2; clear hg2 hb2)
          | (go_at_call 17; with_reducible refine (HBk.out _ _ (grown_trans HG1.out HG2.out) HB2.out).mono ?_; rintro e w3 ⟨rfl, hg3⟩; have HG3 := Lib.hid (grown_trans (grown_trans HG1.out HG2.out) hg3); clear hg3)
          | (go_at_call 17; with_reducible refine (HIs.out _ (grown_trans HG3.out HG2.out)).mono ?_; rintro e w4 ⟨rfl, hg4⟩; have HG4 := Lib.hid (grown_trans (grown_trans HG3.out HG2.out) hg4); have c0 := Hc0.out _ HG4.out; clear hg4)
          | (go_at_call 12; refine (HNm.out 0 (by decide) _ HG4.out).mono ?_; rintro e w5 ⟨rfl, hg5⟩; have HG5 := Lib.hid (grown_trans HG4.out hg5); clear hg5))
        go_ret
        exact ⟨rfl, HG4.out⟩
      · by_cases h1 : x = 255
        · subst h1
          cases hbk
          go_enter Tryd.func5, Tryd.ntmps5
          go_wp2_with (first
            | (go_at_call 7; refine HAl.out.mono ?_; rintro e w1 ⟨rfl, hg1⟩; have HG1 := Lib.hid hg1; clear hg1)
            | (go_at_call 18; refine (HTr.out _).mono ?_; rintro e w2 ⟨rfl, hg2, hb2⟩; have HG2 := Lib.hid hg2; have HB2 := Lib.hid hb2; clear hg2 hb2)
            | (go_at_call 17; with_reducible refine (HBk.out _ _ (grown_trans HG1.out HG2.out) HB2.out).mono ?_; rintro e w3 ⟨rfl, hg3⟩; have HG3 := Lib.hid (grown_trans (grown_trans HG1.out HG2.out) hg3); clear hg3)
            | (go_at_call 17; with_reducible refine (HIs.out _ (grown_trans HG3.out HG2.out)).mono ?_; rintro e w4 ⟨rfl, hg4⟩; have HG4 := Lib.hid (grown_trans (grown_trans HG3.out HG2.out) hg4); have c0 := Hc0.out _ HG4.out; clear hg4)
            | (go_at_call 12; refine (HNm.out 0 (by decide) _ HG4.out).mono ?_; rintro e w5 ⟨rfl, hg5⟩; have HG5 := Lib.hid (grown_trans HG4.out hg5); clear hg5))
          go_ret
          exact ⟨rfl, HG4.out⟩
        · have hb4 : isTrue [x] = (false, 4) := by simp [isTrue, h0, h1]
          rw [hb4] at hbk
          cases hbk
          have d1 : ((x : Int) != 0) = true := by simp; omega
          have d2 : ((x : Int) != 255) = true := by simp; omega
          clear hb4
          go_enter Tryd.func5, Tryd.ntmps5
          go_wp2_with (first
            | (go_at_call 7; refine HAl.out.mono ?_; rintro e w1 ⟨rfl, hg1⟩; have HG1 := Lib.hid hg1; clear hg1)
            | (go_at_call 18; refine (HTr.out _).mono ?_; rintro e w2 ⟨rfl, hg2, hb2⟩; have HG2 := Lib.hid hg2; have HB2 := Lib.hid hb2; clear hg2 hb2)
            | (go_at_call 17; with_reducible refine (HBk.out _ _ (grown_trans HG1.out HG2.out) HB2.out).mono ?_; rintro e w3 ⟨rfl, hg3⟩; have HG3 := Lib.hid (grown_trans (grown_trans HG1.out HG2.out) hg3); clear hg3)
            | (go_at_call 17; with_reducible refine (HIs.out _ (grown_trans HG3.out HG2.out)).mono ?_; rintro e w4 ⟨rfl, hg4⟩; have HG4 := Lib.hid (grown_trans (grown_trans HG3.out HG2.out) hg4); have c0 := Hc0.out _ HG4.out; clear hg4)
            | (go_at_call 12; refine (HNm.out 4 (by decide) _ HG4.out).mono ?_; rintro e w5 ⟨rfl, hg5⟩; have HG5 := Lib.hid (grown_trans HG4.out hg5); clear hg5))
          go_ret
          exact ⟨rfl, HG5.out⟩
    · cases hbk
      have hn2 : 1 < n := by rw [hn]; simp
      clear hlt ha hcell hE hn
      go_enter Tryd.func5, Tryd.ntmps5
      go_wp2_with (first
        | (go_at_call 7; refine HAl.out.mono ?_; rintro e w1 ⟨rfl, hg1⟩; have HG1 := Lib.hid hg1; clear hg1)
        | (go_at_call 18; refine (HTr.out _).mono ?_; rintro e w2 ⟨rfl, hg2, hb2⟩; have HG2 := Lib.hid hg2; have HB2 := Lib.hid hb2; clear hg2 hb2)
        | (go_at_call 17; with_reducible refine (HBk.out _ _ (grown_trans HG1.out HG2.out) HB2.out).mono ?_; rintro e w3 ⟨rfl, hg3⟩; have HG3 := Lib.hid (grown_trans (grown_trans HG1.out HG2.out) hg3); clear hg3)
        | (go_at_call 17; with_reducible refine (HIs.out _ (grown_trans HG3.out HG2.out)).mono ?_; rintro e w4 ⟨rfl, hg4⟩; have HG4 := Lib.hid (grown_trans (grown_trans HG3.out HG2.out) hg4); clear hg4)
        | (go_at_call 12; refine (HNm.out 4 (by decide) _ HG4.out).mono ?_; rintro e w5 ⟨rfl, hg5⟩; have HG5 := Lib.hid (grown_trans HG4.out hg5); clear hg5))
      go_ret
      exact ⟨rfl, HG5.out⟩
end Go.Proofs.YtbbkhdgkpacjgaaDoor
