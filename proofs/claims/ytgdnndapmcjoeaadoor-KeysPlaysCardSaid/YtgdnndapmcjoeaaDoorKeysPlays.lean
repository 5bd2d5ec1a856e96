/- In the Go program's model the law KeysPlays of package bullalaw10 returns true for every input, and leaves all memory that was there as it was: rings answer as the document's own ring does, whatever keys are put in, messages signed, signatures verified and copies made, in every order (of at most 40 acts, each of at most 200 bytes, with domains of at most 100; the law says nothing of more).
   Conditions: the 28 errors of package api, and start and rounds of package sha, hold what the program's text lays in them; the card ties them to that text. -/
import Derived.Test.YtgdnndapmcjoeaaDoorKe14
import Derived.Test.YtgdnndapmcjoeaaDoorKe38
import Derived.Test.YtgdnndapmcjoeaaDoorKe39
import Derived.Test.YtgdnndapmcjoeaaDoorKe48
import Derived.Test.YtgdnndapmcjoeaaDoorCards
import Derived.Test.YtgdnndapmcjoeaaDoorTie
import Derived.SevenTiedAt
namespace Go.Proofs.YtgdnndapmcjoeaaDoor
open Go.ChangeShapes Go.WideShapes Go.ChangeAt Go.RowKit
set_option maxRecDepth 100000 in
theorem keysPlays_lifted (os : Os) (started : os.Started) (H : Type) (enc : TypeId × Value → H) :
    ReturnsInHanded {} Tryd.checked os 4 .any (fun w args => (Rows.keysPlaysSpec.pre enc Tryd.prog Tryd.f4 [] false w args ∧ laidMetH Tryd.prog (laids28 ++ laids) w) ∧ sizedMet enc Tryd.prog Tryd.f4 (OpenSpec.ofChange Rows.keysPlaysSpec) false w args)
      (Rows.keysPlaysSpec.post enc Tryd.prog Tryd.f4 false true false false) := by
  refine returnsInHanded_of_change_and (C := Tryd.checked) (X := fun w _ => laidMetH Tryd.prog (laids28 ++ laids) w) (fun _ _ _ hh h => h.of_heap hh) own2 started (by kernel_rfl) Tryd.func4
    (ChangeSpec.witness_shaped (enc := enc) (C := Tryd.checked) (os := os) (X := fun w _ => laidMetH Tryd.prog (laids28 ++ laids) w) false (World.laidAll Tryd.prog os (laids28 ++ laids)) #[.slice none 0 0] 8 (World.laidAll_os _ _ _) (World.shaped_of_ZipB (by kernel_rfl) (by kernel_rfl)) (by kernel_rfl) (by kernel_rfl) (by kernel_rfl)
      (by rw [MakeChecks.laidMetH_plain _ _ _ (by kernel_rfl)]; exact laidMet_laidAll _ (by kernel_rfl) (by kernel_rfl))) ?_
  intro W base args ds gs before hval0 hW _ _ hL _
  have hval : ∀ (j : Nat) t v, Tryd.f4.params[j]? = some t → args[j]? = some v → Value.okWide Tryd.prog W .any base t v := hval0
  have hW' := hW
  obtain ⟨p, q, hA0, hV, rfl, hfz, hnd⟩ := hW
  have hA : DataW.TrodAll enc Tryd.prog W 0 (fun _ => true) true Tryd.f4.params.toList args.toList ds p := hA0
  rw [Tryd.params4] at hA hval
  obtain ⟨v0, d0, rfl, rfl, h0⟩ := trodAll_one hA
  obtain ⟨rfl, rfl⟩ := trodVars_none hV
  have hlt : ∀ x ∈ p, x.block < W.heap.size := fun x hx => hW'.lt x (by simpa using hx)
  have hlt0 : ∀ x ∈ p, x.block < W.heap.size := fun x hx => hlt x (by simp [hx])
  obtain ⟨a0, l0, c0, rfl⟩ := okWide_slice Tryd.underlying34 (hval 0 34 v0 rfl rfl)
  have h0' := h0
  obtain ⟨fuel, hf⟩ := h0'
  obtain ⟨a, sb, so, n, c, xs, hcs, hn, ha, hX, hnn⟩ := acts_in hf
  have hv : Value.slice a0 l0 c0 = .slice a n c := by simpa [Value.cells] using hcs
  rw [hv] at hW' h0 ⊢
  unfold maxLen at hnn
  have hL3 := hL
  rw [MakeChecks.laidMetH_plain _ _ _ (by kernel_rfl)] at hL3
  have hLd : Laid W := laid_of hL3.tail.tail.tail.tail.tail.tail.tail.tail.tail.tail.tail.tail.tail.tail.tail.tail.tail.tail.tail.tail.tail.tail.tail.tail.tail.tail.tail.tail

  have hL2 := hL
  rw [MakeChecks.laidMetH_plain _ _ _ (by kernel_rfl)] at hL2
  obtain ⟨A, hE⟩ := allErrs_of hL2 (List.range 28) rfl (by decide)
  refine (keysPlays_any A a sb so n c xs W hn ha hX (by omega) hE hLd).mono fun e W' ⟨he, hg⟩ => ?_
  subst he
  have bel : Below W.heap.size W W' := ⟨hg.os, hg.tape, hg.output, hg.size, fun k hk => hg.block k hk (by simp)⟩
  exact ⟨_, rfl, [d0], [], _, [], p, [], hW', trodAll_mk1 (shut_bool Tryd.underlying4 _),
    trodAll_mk1 (Below.trod laidOut2 (by kernel_rfl) (of_decide_eq_true (by kernel_rfl)) h0 bel hlt0), rfl, bel.frame _, fun h => by cases h⟩
theorem keysPlays_holds : Rows.KeysPlaysSaid :=
  OpenClaim.holds_of_wide 4 Tryd.f4 rfl rfl rfl rfl rfl rfl rfl ⟨rfl, rfl, rfl, rfl, rfl⟩ rfl rfl rfl rfl rfl (by kernel_rfl) Tryd.func4 (by kernel_rfl)
    (of_decide_eq_true (by kernel_rfl)) (by unfold Func.isWrapper; rw [if_neg (of_decide_eq_false (by kernel_rfl))]; exact ⟨rfl, rfl⟩)
    (fun os started H enc _ => keysPlays_lifted os started H enc)
theorem keysPlays_card : Rows.KeysPlaysCardSaid :=
  Claim7.holds_tied_plain_at .later [] Rows.keysPlaysCard.laidKinds true Rows.keysPlaysCard.stood.harness true
    keysPlays_holds (fun _ h => by cases h) (by kernel_rfl) (fun _ h => by cases h) keysPlays_row_tie rfl ⟨rfl, rfl⟩ (by kernel_rfl) rfl
    (fun f fn hf hfn => by
      obtain rfl : f = 4 := Option.some.inj ((show Tryd.prog.funcNamed "bulla/bullalaw10.KeysPlays" = some 4 by kernel_rfl).symm.trans hf) |>.symm
      obtain rfl : fn = Tryd.f4 := (Option.some.inj (Tryd.func4.symm.trans hfn)).symm
      exact ⟨by kernel_rfl, fun j t ht => by
        rw [Tryd.params4] at ht
        rcases j with _ | j
        · simp at ht; subst ht; kernel_rfl
        · simp at ht⟩)
    (by kernel_rfl)
#print axioms keysPlays_card
end Go.Proofs.YtgdnndapmcjoeaaDoor
