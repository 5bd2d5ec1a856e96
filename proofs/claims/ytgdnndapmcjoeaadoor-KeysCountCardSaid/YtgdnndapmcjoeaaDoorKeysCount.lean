/- In the Go program's model the law KeysCount of package bullalaw10 returns true for every input, and leaves all memory that was there as it was: of what a ring of three keys has signed (at most 20 messages of at most 200 bytes, with domains of at most 100; the law says nothing of more) a signature counts just where that key signed that message with that domain, whoever reckons it; a domain that is wrong is refused by the document's own error.
   Conditions: the 28 errors of package api, and start and rounds of package sha, hold what the program's text lays in them; the card ties them to that text. -/
import Derived.Test.YtgdnndapmcjoeaaDoorKb16
import Derived.Test.YtgdnndapmcjoeaaDoorKb46
import Derived.Test.YtgdnndapmcjoeaaDoorKb47
import Derived.Test.YtgdnndapmcjoeaaDoorKb48
import Derived.Test.YtgdnndapmcjoeaaDoorCards
import Derived.Test.YtgdnndapmcjoeaaDoorTie
import Derived.SevenTiedAt
namespace Go.Proofs.YtgdnndapmcjoeaaDoor
open Go.ChangeShapes Go.WideShapes Go.ChangeAt Go.RowKit
set_option maxRecDepth 100000 in
theorem keysCount_lifted (os : Os) (started : os.Started) (H : Type) (enc : TypeId × Value → H) :
    ReturnsInHanded {} Tryd.checked os 5 .any (fun w args => (Rows.keysCountSpec.pre enc Tryd.prog Tryd.f5 [] false w args ∧ laidMetH Tryd.prog (laids28 ++ laids) w) ∧ sizedMet enc Tryd.prog Tryd.f5 (OpenSpec.ofChange Rows.keysCountSpec) false w args)
      (Rows.keysCountSpec.post enc Tryd.prog Tryd.f5 false true false false) := by
  refine returnsInHanded_of_change_and (C := Tryd.checked) (X := fun w _ => laidMetH Tryd.prog (laids28 ++ laids) w) (fun _ _ _ hh h => h.of_heap hh) own2 started (by kernel_rfl) Tryd.func5
    (ChangeSpec.witness_shaped (enc := enc) (C := Tryd.checked) (os := os) (X := fun w _ => laidMetH Tryd.prog (laids28 ++ laids) w) false (World.laidAll Tryd.prog os (laids28 ++ laids)) #[.slice none 0 0, .agg #[.int .i64 0, .string .empty, .slice none 0 0]] 8 (World.laidAll_os _ _ _) (World.shaped_of_ZipB (by kernel_rfl) (by kernel_rfl)) (by kernel_rfl) (by kernel_rfl) (by kernel_rfl)
      (by rw [MakeChecks.laidMetH_plain _ _ _ (by kernel_rfl)]; exact laidMet_laidAll _ (by kernel_rfl) (by kernel_rfl))) ?_
  intro W base args ds gs before hval0 hW _ _ hL _
  have hval : ∀ (j : Nat) t v, Tryd.f5.params[j]? = some t → args[j]? = some v → Value.okWide Tryd.prog W .any base t v := hval0
  have hW' := hW
  obtain ⟨p, q, hA0, hV, rfl, hfz, hnd⟩ := hW
  have hA : DataW.TrodAll enc Tryd.prog W 0 (fun _ => true) true Tryd.f5.params.toList args.toList ds p := hA0
  rw [Tryd.params5] at hA hval
  obtain ⟨v0, v1, d0, d1, p0, p1, rfl, rfl, rfl, h0, h1⟩ := trodAll_two hA
  obtain ⟨rfl, rfl⟩ := trodVars_none hV
  have hlt : ∀ x ∈ p0 ++ p1, x.block < W.heap.size := fun x hx => hW'.lt x (by simpa using hx)
  have hlt0 : ∀ x ∈ p0, x.block < W.heap.size := fun x hx => hlt x (by simp [hx])
  have hlt1 : ∀ x ∈ p1, x.block < W.heap.size := fun x hx => hlt x (by simp [hx])
  obtain ⟨a0, l0, c0, rfl⟩ := okWide_slice Tryd.underlying53 (hval 0 53 v0 rfl rfl)
  have h0' := h0
  obtain ⟨fuel, hf⟩ := h0'
  obtain ⟨a, sb, so, n, c, xs, hcs, hn, ha, hX, hnn⟩ := sgs_in hf
  have hv : Value.slice a0 l0 c0 = .slice a n c := by simpa [Value.cells] using hcs
  rw [hv] at hW' h0 ⊢
  obtain ⟨c0, c1, c2, y0, y1, y2, k0, rfl, _, _, g0, g1, g2⟩ := Go.Joins.open_agg3 Tryd.underlying55 (by kernel_rfl) (by kernel_rfl) (hval 1 55 v1 rfl rfl) h1
  obtain ⟨z0, e0, _⟩ := DataW.trod_int Tryd.underlying3 g0
  obtain ⟨S, e1, _⟩ := DataW.trod_string Tryd.underlying9 g1
  obtain ⟨a', l', c', e2⟩ := Joins.slice_form Tryd.underlying22 g2
  obtain rfl := (List.cons.inj e0).1
  obtain rfl := (List.cons.inj e1).1
  obtain rfl := (List.cons.inj e2).1
  obtain ⟨B, hB, hB0, hmB⟩ := bytes_in (v := .slice a' l' c') (d := y2.1) (p := y2.2) ⟨k0, by simpa [Value.cells] using g2⟩ ⟨_, _, _, rfl⟩
  obtain rfl : l' = B.length := by
    obtain ⟨_, va, _, _, vc, hv2, _⟩ := hB
    cases hv2; rfl
  unfold maxLen at hnn hmB
  have hL3 := hL
  rw [MakeChecks.laidMetH_plain _ _ _ (by kernel_rfl)] at hL3
  have hLd : Laid W := laid_of hL3.tail.tail.tail.tail.tail.tail.tail.tail.tail.tail.tail.tail.tail.tail.tail.tail.tail.tail.tail.tail.tail.tail.tail.tail.tail.tail.tail.tail

  have hL2 := hL
  rw [MakeChecks.laidMetH_plain _ _ _ (by kernel_rfl)] at hL2
  obtain ⟨A, hE⟩ := allErrs_of hL2 (List.range 28) rfl (by decide)
  refine (keysCount_any A a sb so n c xs z0 S a' c' B W hn ha hX (by omega) hB hB0 (by omega) hE hLd).mono fun e W' ⟨he, hg⟩ => ?_
  subst he
  have bel : Below W.heap.size W W' := ⟨hg.os, hg.tape, hg.output, hg.size, fun k hk => hg.block k hk (by simp)⟩
  exact ⟨_, rfl, [d0, d1], [], _, [], p0 ++ p1, [], hW', trodAll_mk1 (shut_bool Tryd.underlying4 _),
    trodAll_mk2 (Below.trod laidOut2 (by kernel_rfl) (of_decide_eq_true (by kernel_rfl)) h0 bel hlt0) (Below.trod laidOut2 (by kernel_rfl) (of_decide_eq_true (by kernel_rfl)) h1 bel hlt1), rfl, bel.frame _, fun h => by cases h⟩
theorem keysCount_holds : Rows.KeysCountSaid :=
  OpenClaim.holds_of_wide 5 Tryd.f5 rfl rfl rfl rfl rfl rfl rfl ⟨rfl, rfl, rfl, rfl, rfl⟩ rfl rfl rfl rfl rfl (by kernel_rfl) Tryd.func5 (by kernel_rfl)
    (of_decide_eq_true (by kernel_rfl)) (by unfold Func.isWrapper; rw [if_neg (of_decide_eq_false (by kernel_rfl))]; exact ⟨rfl, rfl⟩)
    (fun os started H enc _ => keysCount_lifted os started H enc)
theorem keysCount_card : Rows.KeysCountCardSaid :=
  Claim7.holds_tied_plain_at .later [] Rows.keysCountCard.laidKinds true Rows.keysCountCard.stood.harness true
    keysCount_holds (fun _ h => by cases h) (by kernel_rfl) (fun _ h => by cases h) keysCount_row_tie rfl ⟨rfl, rfl⟩ (by kernel_rfl) rfl
    (fun f fn hf hfn => by
      obtain rfl : f = 5 := Option.some.inj ((show Tryd.prog.funcNamed "bulla/bullalaw10.KeysCount" = some 5 by kernel_rfl).symm.trans hf) |>.symm
      obtain rfl : fn = Tryd.f5 := (Option.some.inj (Tryd.func5.symm.trans hfn)).symm
      exact ⟨by kernel_rfl, fun j t ht => by
        rw [Tryd.params5] at ht
        rcases j with _ | _ | j
        · simp at ht; subst ht; kernel_rfl
        · simp at ht; subst ht; kernel_rfl
        · simp at ht⟩)
    (by kernel_rfl)
#print axioms keysCount_card
end Go.Proofs.YtgdnndapmcjoeaaDoor
