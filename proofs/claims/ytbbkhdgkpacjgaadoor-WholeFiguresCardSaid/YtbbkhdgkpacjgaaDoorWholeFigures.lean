/- In the Go program's model the law WholeFigures of package bullalaw04 returns true for every input, and leaves all memory that was there as it was: whole.Serial gives every number's figures by the document's own answer (none of one below 0), whole.Figures reads them as the same number (below 10^18), and tells of all texts which number's figures they are, or the error (the law says nothing of a text of more than 100 bytes).
   Conditions: the 28 errors of package api, strconv's two errors, internal/strconv's table of powers of ten and math/bits' two tables hold what the program's text lays in them; the card ties them to that text. -/
import Derived.ChangeMaps5
import Derived.Test.YtbbkhdgkpacjgaaDoorOpn
import Derived.Test.YtbbkhdgkpacjgaaDoorNm3
import Derived.Test.YtbbkhdgkpacjgaaDoorWf3
import Derived.Test.YtbbkhdgkpacjgaaDoorLf
import Derived.Test.YtbbkhdgkpacjgaaDoorOpn4
import Derived.Test.YtbbkhdgkpacjgaaDoorCards
import Derived.Test.YtbbkhdgkpacjgaaDoorTie
import Derived.SevenTiedAt
namespace Go.Proofs.YtbbkhdgkpacjgaaDoor
open Go.ChangeShapes Go.WideShapes Go.ChangeAt Go.RowKit

set_option maxRecDepth 100000 in
theorem wholeFigures_lifted (os : Os) (started : os.Started) (H : Type) (enc : TypeId × Value → H) :
    ReturnsInHanded {} Tryd.checked os 6 .any (fun w args => (Rows.wholeFiguresSpec.pre enc Tryd.prog Tryd.f6 [] false w args ∧ laidMetH Tryd.prog laidsF w) ∧ sizedMet enc Tryd.prog Tryd.f6 (OpenSpec.ofChange Rows.wholeFiguresSpec) false w args)
      (Rows.wholeFiguresSpec.post enc Tryd.prog Tryd.f6 false true false false) := by
  refine returnsInHanded_of_change_and (C := Tryd.checked) (X := fun w _ => laidMetH Tryd.prog laidsF w) (fun _ _ _ hh h => h.of_heap hh) own2 started (by kernel_rfl) Tryd.func6
    (ChangeSpec.witness_shaped (enc := enc) (C := Tryd.checked) (os := os) (X := fun w _ => laidMetH Tryd.prog laidsF w) false (World.laidAll Tryd.prog os laidsF) #[.int .i64 0, .string .empty] 8 (World.laidAll_os _ _ _) (World.shaped_of_ZipB (by kernel_rfl) (by kernel_rfl)) (by kernel_rfl) (by kernel_rfl) (by kernel_rfl)
      (by rw [MakeChecks.laidMetH_plain _ _ _ (by kernel_rfl)]; exact laidMet_laidAll _ (by kernel_rfl) (by kernel_rfl))) ?_
  intro W base args ds gs before hval0 hW _ _ hL _
  have hval : ∀ (j : Nat) t v, Tryd.f6.params[j]? = some t → args[j]? = some v → Value.okWide Tryd.prog W .any base t v := hval0
  have hW' := hW
  obtain ⟨p, q, hA0, hV, rfl, hfz, hnd⟩ := hW
  have hA : DataW.TrodAll enc Tryd.prog W 0 (fun _ => true) true Tryd.f6.params.toList args.toList ds p := hA0
  rw [Tryd.params6] at hA hval
  obtain ⟨v0, v1, d0, d1, p0, p1, rfl, rfl, rfl, h0, h1⟩ := trodAll_two hA
  obtain ⟨rfl, rfl⟩ := trodVars_none hV
  have hlt : ∀ x ∈ p0 ++ p1, x.block < W.heap.size := fun x hx => hW'.lt x (by simpa using hx)
  have hlt0 : ∀ x ∈ p0, x.block < W.heap.size := fun x hx => hlt x (by simp [hx])
  have hlt1 : ∀ x ∈ p1, x.block < W.heap.size := fun x hx => hlt x (by simp [hx])
  obtain ⟨z0, rfl, hz1, hz2⟩ := int_in (hval 0 3 v0 rfl rfl)
  obtain ⟨s, rfl, _, _, _⟩ := Go.ChangeMaps.open_string Tryd.underlying9 (hval 1 9 v1 rfl rfl) h1
  have hL3 := hL
  rw [MakeChecks.laidMetH_plain _ _ _ (by kernel_rfl)] at hL3
  obtain ⟨tp, pe, hFg⟩ := figs_of hL3
  have hL2 := hL
  rw [MakeChecks.laidMetH_plain _ _ _ (by kernel_rfl)] at hL2
  obtain ⟨A, hE⟩ := allErrs_of hL2 (List.range' 3 28) rfl (by decide)
  refine (wholeFigures_any A z0 hz2 s tp pe W hFg hE).mono fun e W' ⟨he, hg⟩ => ?_
  subst he
  have bel : Below W.heap.size W W' := ⟨hg.os, hg.tape, hg.output, hg.size, fun k hk => hg.block k hk (by simp)⟩
  exact ⟨_, rfl, [d0, d1], [], _, [], p0 ++ p1, [], hW', trodAll_mk1 (shut_bool Tryd.underlying4 _),
    trodAll_mk2 (Below.trod laidOut2 (by kernel_rfl) (of_decide_eq_true (by kernel_rfl)) h0 bel hlt0) (Below.trod laidOut2 (by kernel_rfl) (of_decide_eq_true (by kernel_rfl)) h1 bel hlt1), rfl, bel.frame _, fun h => by cases h⟩

theorem wholeFigures_holds : Rows.WholeFiguresSaid :=
  OpenClaim.holds_of_wide 6 Tryd.f6 rfl rfl rfl rfl rfl rfl rfl ⟨rfl, rfl, rfl, rfl, rfl⟩ rfl rfl rfl rfl rfl (by kernel_rfl) Tryd.func6 (by kernel_rfl)
    (of_decide_eq_true (by kernel_rfl)) (by unfold Func.isWrapper; rw [if_neg (of_decide_eq_false (by kernel_rfl))]; exact ⟨rfl, rfl⟩)
    (fun os started H enc _ => wholeFigures_lifted os started H enc)

theorem wholeFigures_card : Rows.WholeFiguresCardSaid :=
  Claim7.holds_tied_plain_at .later [] Rows.wholeFiguresCard.laidKinds true Rows.wholeFiguresCard.stood.harness true
    wholeFigures_holds (fun _ h => by cases h) (by kernel_rfl) (fun _ h => by cases h) wholeFigures_row_tie rfl ⟨rfl, rfl⟩ (by kernel_rfl) rfl
    (fun f fn hf hfn => by
      obtain rfl : f = 6 := Option.some.inj ((show Tryd.prog.funcNamed "bulla/bullalaw04.WholeFigures" = some 6 by kernel_rfl).symm.trans hf) |>.symm
      obtain rfl : fn = Tryd.f6 := (Option.some.inj (Tryd.func6.symm.trans hfn)).symm
      exact ⟨by kernel_rfl, fun j t ht => by
        rw [Tryd.params6] at ht
        rcases j with _ | _ | j
        · simp at ht; subst ht; kernel_rfl
        · simp at ht; subst ht; kernel_rfl
        · simp at ht⟩)
    (by kernel_rfl)
#print axioms wholeFigures_card
end Go.Proofs.YtbbkhdgkpacjgaaDoor
