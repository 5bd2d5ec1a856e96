/- In the Go program's model the law BundleSteps of package bullalaw13 returns true for every bundle and every list of steps, and leaves all memory that was there as it was: what With and Without answer to each step, the bundle that follows, the bundle that they were asked of, and what Find finds in what follows, are the document's own answers (the law says nothing of more than 20 anchors or 30 steps, or of texts of more than 100 bytes).
   Conditions: the variables that the row lists (package api's 28 errors, moments' table of months, and utf8's two tables) hold what the program's text lays in them; the card ties them to that text. -/
import Derived.Test.YtihioekepflpiaaGreatDoorZb07
import Derived.Test.YtihioekepflpiaaGreatDoorZb27
import Derived.Test.YtihioekepflpiaaGreatDoorZb29
import Derived.Test.YtihioekepflpiaaGreatDoorZb45
import Derived.Test.YtihioekepflpiaaGreatDoorZb48
import Derived.Test.YtihioekepflpiaaGreatDoorCards
import Derived.Test.YtihioekepflpiaaGreatDoorTie
import Derived.SevenTiedAt
set_option linter.unusedVariables false
set_option linter.unusedSimpArgs false
namespace Go.Proofs.YtihioekepflpiaaGreatDoor
open Go.ChangeShapes Go.WideShapes Go.ChangeAt Go.RowKit Bu
theorem bundleSteps_any (A : Nat → Addr) (v : Int) (sp : ByteArray) (a : Value) (l : List An) (u : Value) (ss : List Stp) (w : World) (hA : Ans w a l) (hS : StpsV w u ss) (hB : BodiesOf A w) (hv1 : -9223372036854775808 ≤ v) (hv2 : v ≤ 9223372036854775807) :
    Calls Tryz.prog 3 #[.agg #[.int .i64 v, .string sp, a], u] w fun e w' => e = .returned (.bool true) ∧ w.grownBy w' none :=
  bsteps_any A v sp a l u ss w hA hS hB.errs hv1 hv2 (fun W hW => alive13_any W (BodiesOf.up9 hB hW))
set_option maxRecDepth 100000 in
theorem bundleSteps_lifted (os : Os) (started : os.Started) (H : Type) (enc : TypeId × Value → H) :
    ReturnsInHanded {} Tryz.checked os 3 .any (fun w args => (Rows.bundleStepsSpec.pre enc Tryz.prog Tryz.f3 [] false w args ∧ laidMetH Tryz.prog laidsBS w) ∧ sizedMet enc Tryz.prog Tryz.f3 (OpenSpec.ofChange Rows.bundleStepsSpec) false w args)
      (Rows.bundleStepsSpec.post enc Tryz.prog Tryz.f3 false true false false) := by
  refine returnsInHanded_of_change_and (C := Tryz.checked) (X := fun w _ => laidMetH Tryz.prog laidsBS w) (fun _ _ _ hh h => h.of_heap hh) own2 started (by kernel_rfl) Tryz.func3
    (ChangeSpec.witness_shaped (enc := enc) (C := Tryz.checked) (os := os) (X := fun w _ => laidMetH Tryz.prog laidsBS w) false (World.laidAll Tryz.prog os laidsBS) #[.agg #[.int .i64 0, .string .empty, .slice none 0 0], .slice none 0 0] 8 (World.laidAll_os _ _ _) (World.shaped_of_ZipB (by kernel_rfl) (by kernel_rfl)) (by kernel_rfl) (by kernel_rfl) (by kernel_rfl)
      (by rw [MakeChecks.laidMetH_plain _ _ _ (by kernel_rfl)]; exact laidMet_laidAll _ (by kernel_rfl) (by kernel_rfl))) ?_
  intro W base args ds gs before hval0 hW _ _ hL _
  have hval : ∀ (j : Nat) t v, Tryz.f3.params[j]? = some t → args[j]? = some v → Value.okWide Tryz.prog W .any base t v := hval0
  have hW' := hW
  obtain ⟨p, q, hA0, hV, rfl, hfz, hnd⟩ := hW
  have hA : DataW.TrodAll enc Tryz.prog W 0 (fun _ => true) true Tryz.f3.params.toList args.toList ds p := hA0
  rw [Tryz.params3] at hA hval
  obtain ⟨v0, v1, d0, d1, p0, p1, rfl, rfl, rfl, h0, h1⟩ := trodAll_two hA
  obtain ⟨rfl, rfl⟩ := trodVars_none hV
  have hlt : ∀ x ∈ p0 ++ p1, x.block < W.heap.size := fun x hx => hW'.lt x (by simpa using hx)
  have hlt0 : ∀ x ∈ p0, x.block < W.heap.size := fun x hx => hlt x (by simp [hx])
  have hlt1 : ∀ x ∈ p1, x.block < W.heap.size := fun x hx => hlt x (by simp [hx])
  obtain ⟨c0, c1, c2, y0, y1, y2, k0, rfl, _, _, g0, g1, g2⟩ := Go.Joins.open_agg3 Tryz.underlying24 (by kernel_rfl) (by kernel_rfl) (hval 0 24 v0 rfl rfl) h0
  obtain ⟨n0, e0, _, b0⟩ := DataW.trod_int Tryz.underlying3 g0
  obtain ⟨n1, e1, _⟩ := DataW.trod_string Tryz.underlying9 g1
  obtain rfl := (List.cons.inj e0).1
  obtain rfl := (List.cons.inj e1).1
  obtain ⟨av, al, e2, hAn⟩ := ans_in g2
  obtain rfl := (List.cons.inj e2).1
  have hbd := bounds_i64 b0
  obtain ⟨fu, h1'⟩ := id h1
  obtain ⟨sv, sl, hcs, hSt⟩ := stps_in h1'
  obtain ⟨va, vn, vc, rfl⟩ := okWide_slice Tryz.underlying25 (hval 1 25 v1 rfl rfl)
  obtain rfl : Value.slice va vn vc = sv := by simpa [Value.cells] using hcs
  have hL3 := hL
  rw [MakeChecks.laidMetH_plain _ _ _ (by kernel_rfl)] at hL3
  obtain ⟨A, hBo⟩ := rowB_of hL3

  refine (bundleSteps_any A n0 n1 c2 al (.slice va vn vc) sl W hAn hSt hBo (by omega) (by omega)).mono fun e W' ⟨he, hg⟩ => ?_
  subst he
  have bel : Below W.heap.size W W' := ⟨hg.os, hg.tape, hg.output, hg.size, fun k hk => hg.block k hk (by simp)⟩
  exact ⟨_, rfl, [d0, d1], [], _, [], p0 ++ p1, [], hW', trodAll_mk1 (shut_bool Tryz.underlying4 _),
    trodAll_mk2 (Below.trod laidOut2 (by kernel_rfl) (of_decide_eq_true (by kernel_rfl)) h0 bel hlt0) (Below.trod laidOut2 (by kernel_rfl) (of_decide_eq_true (by kernel_rfl)) h1 bel hlt1), rfl, bel.frame _, fun h => by cases h⟩
theorem bundleSteps_holds : Rows.BundleStepsSaid :=
  OpenClaim.holds_of_wide 3 Tryz.f3 rfl rfl rfl rfl rfl rfl rfl ⟨rfl, rfl, rfl, rfl, rfl⟩ rfl rfl rfl rfl rfl (by kernel_rfl) Tryz.func3 bundleSteps_closed
    (of_decide_eq_true (by kernel_rfl)) (by unfold Func.isWrapper; rw [if_neg (of_decide_eq_false (by kernel_rfl))]; exact ⟨rfl, rfl⟩)
    (fun os started H enc _ => bundleSteps_lifted os started H enc)
theorem bundleSteps_card : Rows.BundleStepsCardSaid :=
  Claim7.holds_tied_plain_at .later [] Rows.bundleStepsCard.laidKinds true Rows.bundleStepsCard.stood.harness true
    bundleSteps_holds (fun _ h => by cases h) (by kernel_rfl) (fun _ h => by cases h) bundleSteps_row_tie rfl ⟨rfl, rfl⟩ (by kernel_rfl) rfl
    (fun f fn hf hfn => by
      obtain rfl : f = 3 := Option.some.inj ((show Tryz.prog.funcNamed "bulla/bullalaw13.BundleSteps" = some 3 by kernel_rfl).symm.trans hf) |>.symm
      obtain rfl : fn = Tryz.f3 := (Option.some.inj (Tryz.func3.symm.trans hfn)).symm
      exact ⟨by kernel_rfl, fun j t ht => by
        rw [Tryz.params3] at ht
        rcases j with _ | _ | j
        · simp at ht; subst ht; kernel_rfl
        · simp at ht; subst ht; kernel_rfl
        · simp at ht⟩)
    (by kernel_rfl)
#print axioms bundleSteps_card
end Go.Proofs.YtihioekepflpiaaGreatDoor
