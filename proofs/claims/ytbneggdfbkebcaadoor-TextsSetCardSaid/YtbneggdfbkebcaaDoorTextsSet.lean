/- In the Go program's model the law TextsSet of package bullalaw07 returns true for every input, and leaves all memory that was there as it was: texts.Set gives the body of every set of elements, whatever order they come in, by the document's own answer, keeps the elements as they stood, and texts.Sorted tells whether they stand in order (at most 20 elements of at most 100 bytes; the law says nothing of more).
   Conditions: package api's error ErrRange hold what the program's text lays in them; the card ties them to that text. -/
import Derived.Test.YtbneggdfbkebcaaDoorOpn
import Derived.Test.YtbneggdfbkebcaaDoorNm3
import Derived.Test.YtbneggdfbkebcaaDoorPl5
import Derived.Test.YtbneggdfbkebcaaDoorRc
import Derived.Test.YtbneggdfbkebcaaDoorRw
import Derived.Test.YtbneggdfbkebcaaDoorOpn4
import Derived.Test.YtbneggdfbkebcaaDoorOpn7
import Derived.Test.YtbneggdfbkebcaaDoorLf7
import Derived.Test.YtbneggdfbkebcaaDoorCards
import Derived.Test.YtbneggdfbkebcaaDoorTie
import Derived.SevenTiedAt
namespace Go.Proofs.YtbneggdfbkebcaaDoor
open Go.ChangeShapes Go.WideShapes Go.ChangeAt Go.RowKit

set_option maxRecDepth 100000 in
theorem textsSet_lifted (os : Os) (started : os.Started) (H : Type) (enc : TypeId × Value → H) :
    ReturnsInHanded {} Tryd.checked os 6 .any (fun w args => (Rows.textsSetSpec.pre enc Tryd.prog Tryd.f6 [] false w args ∧ laidMetH Tryd.prog laidsR w) ∧ sizedMet enc Tryd.prog Tryd.f6 (OpenSpec.ofChange Rows.textsSetSpec) false w args)
      (Rows.textsSetSpec.post enc Tryd.prog Tryd.f6 false true false false) := by
  refine returnsInHanded_of_change_and (C := Tryd.checked) (X := fun w _ => laidMetH Tryd.prog laidsR w) (fun _ _ _ hh h => h.of_heap hh) own2 started (by kernel_rfl) Tryd.func6
    (ChangeSpec.witness_shaped (enc := enc) (C := Tryd.checked) (os := os) (X := fun w _ => laidMetH Tryd.prog laidsR w) false (World.laidAll Tryd.prog os laidsR) #[.slice none 0 0, .int .i64 0] 8 (World.laidAll_os _ _ _) (World.shaped_of_ZipB (by kernel_rfl) (by kernel_rfl)) (by kernel_rfl) (by kernel_rfl) (by kernel_rfl)
      (by rw [MakeChecks.laidMetH_plain _ _ _ (by kernel_rfl)]; exact laidMet_laidAll _ (by kernel_rfl) (by kernel_rfl))) ?_
  intro W base args ds gs before hval0 hW _ _ hL _
  have hval : ∀ (j : Nat) t v, Tryd.f6.params[j]? = some t → args[j]? = some v → Value.okWide Tryd.prog W .any base t v := hval0
  have hW' := hW
  obtain ⟨p, q, hA0, hV, rfl, hfz, hnd⟩ := hW
  have hA : DataW.TrodAll enc Tryd.prog W 0 (fun _ => true) true Tryd.f6.params.toList args.toList ds p := hA0
  rw [Tryd.params6] at hA hval
  obtain ⟨v0, v1, d0, d1, p0, p1, rfl, rfl, rfl, h0, h1⟩ := trodAll_two hA
  obtain ⟨rfl, rfl⟩ := trodVars_none hV
  have hlt : ∀ x ∈ p0 ++ p1, x.block < W.heap.size := fun x hx => hW'.lt x (by simpa using hx)
  have hlt0 : ∀ x ∈ p0, x.block < W.heap.size := fun x hx => hlt x (by simp [hx])
  have hlt1 : ∀ x ∈ p1, x.block < W.heap.size := fun x hx => hlt x (by simp [hx])
  obtain ⟨a0, l0, c0, rfl⟩ := okWide_slice Tryd.underlying44 (hval 0 44 v0 rfl rfl)
  have h0' := h0
  obtain ⟨fuel, hf⟩ := h0'
  obtain ⟨a, n, c, ys, L, hcs, hVs, hEa, hWh⟩ := lists_in hf
  have hv : Value.slice a0 l0 c0 = .slice a n c := by simpa [Value.cells] using hcs
  rw [hv] at hW' h0 ⊢
  obtain ⟨z1, rfl, hz1a, hz1b⟩ := int_in (hval 1 3 v1 rfl rfl)
  have hL3 := hL
  rw [MakeChecks.laidMetH_plain _ _ _ (by kernel_rfl)] at hL3
  obtain ⟨A, hR⟩ := rng_of hL3

  refine (textsSet_any A a n c ys L z1 W hVs hEa hWh ⟨hz1a, hz1b⟩ (flags_any A W hR) (set_any W) (sorted_any W)).mono fun e W' ⟨he, hg⟩ => ?_
  subst he
  have bel : Below W.heap.size W W' := ⟨hg.os, hg.tape, hg.output, hg.size, fun k hk => hg.block k hk (by simp)⟩
  exact ⟨_, rfl, [d0, d1], [], _, [], p0 ++ p1, [], hW', trodAll_mk1 (shut_bool Tryd.underlying4 _),
    trodAll_mk2 (Below.trod laidOut2 (by kernel_rfl) (of_decide_eq_true (by kernel_rfl)) h0 bel hlt0) (Below.trod laidOut2 (by kernel_rfl) (of_decide_eq_true (by kernel_rfl)) h1 bel hlt1), rfl, bel.frame _, fun h => by cases h⟩

theorem textsSet_holds : Rows.TextsSetSaid :=
  OpenClaim.holds_of_wide 6 Tryd.f6 rfl rfl rfl rfl rfl rfl rfl ⟨rfl, rfl, rfl, rfl, rfl⟩ rfl rfl rfl rfl rfl (by kernel_rfl) Tryd.func6 (by kernel_rfl)
    (of_decide_eq_true (by kernel_rfl)) (by unfold Func.isWrapper; rw [if_neg (of_decide_eq_false (by kernel_rfl))]; exact ⟨rfl, rfl⟩)
    (fun os started H enc _ => textsSet_lifted os started H enc)

theorem textsSet_card : Rows.TextsSetCardSaid :=
  Claim7.holds_tied_plain_at .later [] Rows.textsSetCard.laidKinds true Rows.textsSetCard.stood.harness true
    textsSet_holds (fun _ h => by cases h) (by kernel_rfl) (fun _ h => by cases h) textsSet_row_tie rfl ⟨rfl, rfl⟩ (by kernel_rfl) rfl
    (fun f fn hf hfn => by
      obtain rfl : f = 6 := Option.some.inj ((show Tryd.prog.funcNamed "bulla/bullalaw07.TextsSet" = some 6 by kernel_rfl).symm.trans hf) |>.symm
      obtain rfl : fn = Tryd.f6 := (Option.some.inj (Tryd.func6.symm.trans hfn)).symm
      exact ⟨by kernel_rfl, fun j t ht => by
        rw [Tryd.params6] at ht
        rcases j with _ | _ | j
        · simp at ht; subst ht; kernel_rfl
        · simp at ht; subst ht; kernel_rfl
        · simp at ht⟩)
    (by kernel_rfl)
#print axioms textsSet_card
end Go.Proofs.YtbneggdfbkebcaaDoor
