/- In the Go program's model the law DerBack of package bullalaw08 returns true for every list of values, and leaves all memory that was there as it was: what a program's writer writes in one list, of each value that it takes by itself, a program's reader reads as it was written, to the end and with no error (the law says nothing of more than 60 values, or of one with more than 300 bytes; it passes over those whose kind is not 3 to 10).
   Conditions: the variables that the row lists (nine of package api's errors, moments' table of months, and the library's tables and two errors) hold what the program's text lays in them; the card ties them to that text. -/
import Derived.Test.YtagdcjpjbjboeaaGreatDoorZb04
import Derived.Test.YtagdcjpjbjboeaaGreatDoorZb25
import Derived.Test.YtagdcjpjbjboeaaGreatDoorZb35
import Derived.Test.YtagdcjpjbjboeaaGreatDoorZb47
import Derived.Test.YtagdcjpjbjboeaaGreatDoorZb48
import Derived.Test.YtagdcjpjbjboeaaGreatDoorCards
import Derived.Test.YtagdcjpjbjboeaaGreatDoorTie
import Derived.SevenTiedAt
namespace Go.Proofs.YtagdcjpjbjboeaaGreatDoor
open Go.ChangeShapes Go.WideShapes Go.ChangeAt Go.RowKit
set_option maxRecDepth 100000 in
theorem derBack_lifted (os : Os) (started : os.Started) (H : Type) (enc : TypeId × Value → H) :
    ReturnsInHanded {} Tryz.checked os 4 .any (fun w args => (Rows.derBackSpec.pre enc Tryz.prog Tryz.f4 [] false w args ∧ laidMetH Tryz.prog laidsD w) ∧ sizedMet enc Tryz.prog Tryz.f4 (OpenSpec.ofChange Rows.derBackSpec) false w args)
      (Rows.derBackSpec.post enc Tryz.prog Tryz.f4 false true false false) := by
  refine returnsInHanded_of_change_and (C := Tryz.checked) (X := fun w _ => laidMetH Tryz.prog laidsD w) (fun _ _ _ hh h => h.of_heap hh) own2 started (by kernel_rfl) Tryz.func4
    (ChangeSpec.witness_shaped (enc := enc) (C := Tryz.checked) (os := os) (X := fun w _ => laidMetH Tryz.prog laidsD w) false (World.laidAll Tryz.prog os laidsD) #[.slice none 0 0] 8 (World.laidAll_os _ _ _) (World.shaped_of_ZipB (by kernel_rfl) (by kernel_rfl)) (by kernel_rfl) (by kernel_rfl) (by kernel_rfl)
      (by rw [MakeChecks.laidMetH_plain _ _ _ (by kernel_rfl)]; exact laidMet_laidAll _ (by kernel_rfl) (by kernel_rfl))) ?_
  intro W base args ds gs before hval0 hW _ _ hL _
  have hval : ∀ (j : Nat) t v, Tryz.f4.params[j]? = some t → args[j]? = some v → Value.okWide Tryz.prog W .any base t v := hval0
  have hW' := hW
  obtain ⟨p, q, hA0, hV, rfl, hfz, hnd⟩ := hW
  have hA : DataW.TrodAll enc Tryz.prog W 0 (fun _ => true) true Tryz.f4.params.toList args.toList ds p := hA0
  rw [Tryz.params4] at hA hval
  obtain ⟨v0, d0, rfl, rfl, h0⟩ := trodAll_one hA
  obtain ⟨rfl, rfl⟩ := trodVars_none hV
  have hlt : ∀ x ∈ p, x.block < W.heap.size := fun x hx => hW'.lt x (by simpa using hx)
  have hlt0 : ∀ x ∈ p, x.block < W.heap.size := fun x hx => hlt x (by simp [hx])
  have h0k := h0
  obtain ⟨fu, h0'⟩ := h0
  obtain ⟨a0, sb, so, n0, c0, xs, hcs, hxl, hxa, hxv, hxm, hxc⟩ := vals_in h0'
  obtain ⟨va, vn, vc, rfl⟩ := okWide_slice Tryz.underlying46 (hval 0 46 v0 rfl rfl)
  obtain ⟨rfl, rfl, rfl⟩ : va = a0 ∧ vn = n0 ∧ vc = c0 := by simpa [Value.cells] using hcs
  have hL2 := hL
  rw [MakeChecks.laidMetH_plain _ _ _ (by kernel_rfl)] at hL2
  obtain ⟨A, tp, pe, hD⟩ := rowD_of hL2
  refine (derBack_any A va sb so vn vc xs W hxl hxa hxv (by unfold maxLen at hxm; omega) hxc hD.bodies hD.reads).mono fun e W' ⟨he, hg⟩ => ?_
  subst he
  have bel : Below W.heap.size W W' := ⟨hg.os, hg.tape, hg.output, hg.size, fun k hk => hg.block k hk (by simp)⟩
  exact ⟨_, rfl, [d0], [], _, [], p, [], hW', trodAll_mk1 (shut_bool Tryz.underlying4 _),
    trodAll_mk1 (Below.trod laidOut2 (by kernel_rfl) (of_decide_eq_true (by kernel_rfl)) h0k bel hlt0), rfl, bel.frame _, fun h => by cases h⟩
theorem derBack_holds : Rows.DerBackSaid :=
  OpenClaim.holds_of_wide 4 Tryz.f4 rfl rfl rfl rfl rfl rfl rfl ⟨rfl, rfl, rfl, rfl, rfl⟩ rfl rfl rfl rfl rfl (by kernel_rfl) Tryz.func4 derBack_closed
    (of_decide_eq_true (by kernel_rfl)) (by unfold Func.isWrapper; rw [if_neg (of_decide_eq_false (by kernel_rfl))]; exact ⟨rfl, rfl⟩)
    (fun os started H enc _ => derBack_lifted os started H enc)
theorem derBack_card : Rows.DerBackCardSaid :=
  Claim7.holds_tied_plain_at .later [] Rows.derBackCard.laidKinds true Rows.derBackCard.stood.harness true
    derBack_holds (fun _ h => by cases h) (by kernel_rfl) (fun _ h => by cases h) derBack_row_tie rfl ⟨rfl, rfl⟩ (by kernel_rfl) rfl
    (fun f fn hf hfn => by
      obtain rfl : f = 4 := Option.some.inj ((show Tryz.prog.funcNamed "bulla/bullalaw08.DerBack" = some 4 by kernel_rfl).symm.trans hf) |>.symm
      obtain rfl : fn = Tryz.f4 := (Option.some.inj (Tryz.func4.symm.trans hfn)).symm
      exact ⟨by kernel_rfl, fun j t ht => by
        rw [Tryz.params4] at ht
        rcases j with _ | j
        · simp at ht; subst ht; kernel_rfl
        · simp at ht⟩)
    (by kernel_rfl)
#print axioms derBack_card
end Go.Proofs.YtagdcjpjbjboeaaGreatDoor
