/- In the Go program's model the law DerFails of package bullalaw08 returns true for every list of values and every two ints: a writer that is made to fail among other calls holds the first error, whoever made it, and writes what the document's writer writes, and a reader that is made to fail tells its first error, has nothing more and reads nothing (the law says nothing of more than 60 values, or of one with more than 300 bytes).
   Conditions: the variables that the row lists (package api's 28 errors, moments' table of months, and the library's tables and two errors) hold what the program's text lays in them; the card ties them to that text. -/
import Derived.Test.YtgahhbompnbcdaaGreatDoorZf05
import Derived.Test.YtgahhbompnbcdaaGreatDoorZf51
import Derived.Test.YtgahhbompnbcdaaGreatDoorZf49
import Derived.Test.YtgahhbompnbcdaaGreatDoorZf30
import Derived.Test.YtgahhbompnbcdaaGreatDoorZf37
import Derived.Test.YtgahhbompnbcdaaGreatDoorZf47
import Derived.Test.YtgahhbompnbcdaaGreatDoorZf48
import Derived.Test.YtgahhbompnbcdaaGreatDoorCards
import Derived.Test.YtgahhbompnbcdaaGreatDoorTie
import Derived.SevenTiedAt
set_option linter.unusedVariables false
set_option linter.unusedSimpArgs false
namespace Go.Proofs.YtgahhbompnbcdaaGreatDoor
open Go.ChangeShapes Go.WideShapes Go.ChangeAt Go.RowKit
set_option maxRecDepth 100000 in
theorem derFails_lifted (os : Os) (started : os.Started) (H : Type) (enc : TypeId × Value → H) :
    ReturnsInHanded {} Tryz.checked os 7 .any (fun w args => (Rows.derFailsSpec.pre enc Tryz.prog Tryz.f7 [] false w args ∧ laidMetH Tryz.prog laidsD w) ∧ sizedMet enc Tryz.prog Tryz.f7 (OpenSpec.ofChange Rows.derFailsSpec) false w args)
      (Rows.derFailsSpec.post enc Tryz.prog Tryz.f7 false true false false) := by
  refine returnsInHanded_of_change_and (C := Tryz.checked) (X := fun w _ => laidMetH Tryz.prog laidsD w) (fun _ _ _ hh h => h.of_heap hh) own2 started (by kernel_rfl) Tryz.func7
    (ChangeSpec.witness_shaped (enc := enc) (C := Tryz.checked) (os := os) (X := fun w _ => laidMetH Tryz.prog laidsD w) false (World.laidAll Tryz.prog os laidsD) #[.slice none 0 0, .int .i64 0, .int .i64 0] 8 (World.laidAll_os _ _ _) (World.shaped_of_ZipB (by kernel_rfl) (by kernel_rfl)) (by kernel_rfl) (by kernel_rfl) (by kernel_rfl)
      (by rw [MakeChecks.laidMetH_plain _ _ _ (by kernel_rfl)]; exact laidMet_laidAll _ (by kernel_rfl) (by kernel_rfl))) ?_
  intro W base args ds gs before hval0 hW _ _ hL _
  have hval : ∀ (j : Nat) t v, Tryz.f7.params[j]? = some t → args[j]? = some v → Value.okWide Tryz.prog W .any base t v := hval0
  have hW' := hW
  obtain ⟨p, q, hA0, hV, rfl, hfz, hnd⟩ := hW
  have hA : DataW.TrodAll enc Tryz.prog W 0 (fun _ => true) true Tryz.f7.params.toList args.toList ds p := hA0
  rw [Tryz.params7] at hA hval
  obtain ⟨v0, v1, v2, d0, d1, d2, p0, p1, p2, rfl, rfl, rfl, h0, h1, h2⟩ := trodAll_three hA
  obtain ⟨rfl, rfl⟩ := trodVars_none hV
  have hlt : ∀ x ∈ p0 ++ (p1 ++ p2), x.block < W.heap.size := fun x hx => hW'.lt x (by simpa using hx)
  have hlt0 : ∀ x ∈ p0, x.block < W.heap.size := fun x hx => hlt x (by simp [hx])
  have hlt1 : ∀ x ∈ p1, x.block < W.heap.size := fun x hx => hlt x (by simp [hx])
  have hlt2 : ∀ x ∈ p2, x.block < W.heap.size := fun x hx => hlt x (by simp [hx])
  have h0' := h0
  obtain ⟨fu, h0'⟩ := h0'
  obtain ⟨a0, sb, so, n0, c0, xs, hcs, hxl, hxa, hxv, hxm, hxc⟩ := vals_in h0'
  obtain ⟨va, vn, vc, rfl⟩ := okWide_slice Tryz.underlying22 (hval 0 22 v0 rfl rfl)
  obtain ⟨rfl, rfl, rfl⟩ : va = a0 ∧ vn = n0 ∧ vc = c0 := by simpa [Value.cells] using hcs
  obtain ⟨z1, rfl, hz1a, hz1b⟩ := int_in (hval 1 3 v1 rfl rfl)
  obtain ⟨z2, rfl, hz2a, hz2b⟩ := int_in (hval 2 3 v2 rfl rfl)
  have hL3 := hL
  rw [MakeChecks.laidMetH_plain _ _ _ (by kernel_rfl)] at hL3
  obtain ⟨A, tp, pe, hD⟩ := rowD_of hL3

  refine (derFails_any A va sb so vn vc xs z1 z2 W hxl hxa hxv (by unfold maxLen at hxm; omega) hxc hD.bodies).mono fun e W' ⟨he, hg⟩ => ?_
  subst he
  have bel : Below W.heap.size W W' := ⟨hg.os, hg.tape, hg.output, hg.size, fun k hk => hg.block k hk (by simp)⟩
  exact ⟨_, rfl, [d0, d1, d2], [], _, [], p0 ++ (p1 ++ p2), [], hW', trodAll_mk1 (shut_bool Tryz.underlying4 _),
    trodAll_mk3 (Below.trod laidOut2 (by kernel_rfl) (of_decide_eq_true (by kernel_rfl)) h0 bel hlt0) (Below.trod laidOut2 (by kernel_rfl) (of_decide_eq_true (by kernel_rfl)) h1 bel hlt1) (Below.trod laidOut2 (by kernel_rfl) (of_decide_eq_true (by kernel_rfl)) h2 bel hlt2), rfl, bel.frame _, fun h => by cases h⟩
theorem derFails_holds : Rows.DerFailsSaid :=
  OpenClaim.holds_of_wide 7 Tryz.f7 rfl rfl rfl rfl rfl rfl rfl ⟨rfl, rfl, rfl, rfl, rfl⟩ rfl rfl rfl rfl rfl (by kernel_rfl) Tryz.func7 derFails_closed
    (of_decide_eq_true (by kernel_rfl)) (by unfold Func.isWrapper; rw [if_neg (of_decide_eq_false (by kernel_rfl))]; exact ⟨rfl, rfl⟩)
    (fun os started H enc _ => derFails_lifted os started H enc)
theorem derFails_card : Rows.DerFailsCardSaid :=
  Claim7.holds_tied_plain_at .later [] Rows.derFailsCard.laidKinds true Rows.derFailsCard.stood.harness true
    derFails_holds (fun _ h => by cases h) (by kernel_rfl) (fun _ h => by cases h) derFails_row_tie rfl ⟨rfl, rfl⟩ (by kernel_rfl) rfl
    (fun f fn hf hfn => by
      obtain rfl : f = 7 := Option.some.inj ((show Tryz.prog.funcNamed "bulla/bullalaw08.DerFails" = some 7 by kernel_rfl).symm.trans hf) |>.symm
      obtain rfl : fn = Tryz.f7 := (Option.some.inj (Tryz.func7.symm.trans hfn)).symm
      exact ⟨by kernel_rfl, fun j t ht => by
        rw [Tryz.params7] at ht
        rcases j with _ | _ | _ | j
        · simp at ht; subst ht; kernel_rfl
        · simp at ht; subst ht; kernel_rfl
        · simp at ht; subst ht; kernel_rfl
        · simp at ht⟩)
    (by kernel_rfl)
#print axioms derFails_card
end Go.Proofs.YtgahhbompnbcdaaGreatDoor
