/- The walk of the law MacSame. -/
import Derived.Test.YtckdkcfhkakcfaaDoorMs6
import Derived.Test.YtckdkcfhkakcfaaDoorMs1
namespace Go.Proofs.YtckdkcfhkakcfaaDoor
open Go.RowKit

theorem drewN_grown {w : World} (m : Nat) : w.grownBy (w.drewN m) none := grown_drewN (grown_refl _ _) _

set_option maxRecDepth 100000 in
set_option maxHeartbeats 1000000 in
theorem macSame_any (v u : Value) (A B : List Nat) (w : World) (hA : Bytes w v A) (hB : Bytes w u B) (hm : A.length ≤ 9223372036854775807) (hm2 : B.length ≤ 9223372036854775807) (eT eL : Value) (hE : Errs w eT eL) :
    Calls Tryd.prog 9 #[v, u] w fun e w' => e = .returned (.bool true) ∧ w.grownBy w' none := by
  have HAl := Lib.hid (alive2_any w eT eL hE)
  have hAB := strOf_beq hA.lt hB.lt
  have HA := Lib.hid hA
  have HB := Lib.hid hB
  clear hE
  obtain ⟨_, a, sa, oa, ca, rfl, hca, _, _⟩ := hA
  obtain ⟨_, b, sb, ob, cb, rfl, hcb, _, _⟩ := hB
  by_cases hbig : 1000 < A.length ∨ 1000 < B.length
  · by_cases h1 : 1000 < A.length
    · have d1 : decide ((1000 : Int) < (A.length : Int)) = true := decide_eq_true (by omega)
      go_enter Tryd.func9, Tryd.ntmps9
      go_wp2_with (go_at_call 27; refine HAl.out.mono ?_; rintro e w2 ⟨rfl, hg⟩)
      go_ret
      exact ⟨rfl, hg⟩
    · have d1 : decide ((1000 : Int) < (A.length : Int)) = false := decide_eq_false (by omega)
      have d2 : decide ((1000 : Int) < (B.length : Int)) = true := decide_eq_true (by omega)
      go_enter Tryd.func9, Tryd.ntmps9
      go_wp2_with (go_at_call 27; refine HAl.out.mono ?_; rintro e w2 ⟨rfl, hg⟩)
      go_ret
      exact ⟨rfl, hg⟩
  · have d1 : decide ((1000 : Int) < (A.length : Int)) = false := decide_eq_false (by omega)
    have d2 : decide ((1000 : Int) < (B.length : Int)) = false := decide_eq_false (by omega)
    have hk1 : A.length ≤ 1000 := by omega
    have hk2 : B.length ≤ 1000 := by omega
    obtain ⟨t, ht⟩ : ∃ t, t = decide (A = B) := ⟨_, rfl⟩
    rw [← ht] at hAB
    have HT := Lib.hid ht
    clear ht hm hm2 hbig
    have H1 : Hid (∀ W, w.grownBy W none → Calls Tryd.prog 38 #[.slice a A.length ca, .slice b B.length cb] W fun e w' => e = .returned (.bool t) ∧ ∃ m, w' = W.drewN m) :=
      Lib.hid (fun W hW => by rw [HT.out]; exact same_any _ _ A B W (HA.out.grown hW) (HB.out.grown hW) (by omega) (by omega))
    have H2 : Hid (∀ W, w.grownBy W none → Calls Tryd.prog 38 #[.slice a A.length ca, .slice a A.length ca] W fun e w' => e = .returned (.bool true) ∧ ∃ m, w' = W.drewN m) :=
      Lib.hid (fun W hW => by have := same_any _ _ A A W (HA.out.grown hW) (HA.out.grown hW) (by omega) (by omega); rwa [decide_eq_true rfl] at this)
    have C1 : Hid (∀ W, w.grownBy W none → (convert 25 9 (.slice a A.length ca)).run Tryd.prog W = .ok (.string (strOf A)) W) :=
      Lib.hid (fun W hW => conv_bytes (HA.out.grown hW) _ 5 _ Tryd.underlying25 Tryd.underlying5 Tryd.underlying9)
    have C2 : Hid (∀ W, w.grownBy W none → (convert 25 9 (.slice b B.length cb)).run Tryd.prog W = .ok (.string (strOf B)) W) :=
      Lib.hid (fun W hW => conv_bytes (HB.out.grown hW) _ 5 _ Tryd.underlying25 Tryd.underlying5 Tryd.underlying9)
    clear HA HB
    generalize strOf A = sA at *
    generalize strOf B = sB at *
    go_enter Tryd.func9, Tryd.ntmps9
    go_wp2_with (go_at_call 27; refine HAl.out.mono ?_; rintro e w2 ⟨rfl, hg⟩)
    have c1 : ∀ m, (convert 25 9 (.slice a A.length ca)).run Tryd.prog (w2.drewN m) = .ok (.string (sA)) (w2.drewN m) := fun m => C1.out _ (grown_drewN hg m)
    have c2 : ∀ m, (convert 25 9 (.slice b B.length cb)).run Tryd.prog (w2.drewN m) = .ok (.string (sB)) (w2.drewN m) := fun m => C2.out _ (grown_drewN hg m)
    have HG := Lib.hid hg
    clear hg
    have hQ : (t == (sA.toList == sB.toList)) = true := by rw [hAB]; simp
    all_goals (
      go_quiet ((go_at_call 38; first | with_reducible exact Calls.quiet_of (H1.out _ (grown_drewN HG.out _)) | with_reducible exact Calls.quiet_of (H2.out _ (grown_drewN HG.out _))))
      go_wp2
      go_ret
      exact ⟨rfl, grown_drewN HG.out _⟩)
end Go.Proofs.YtckdkcfhkakcfaaDoor
