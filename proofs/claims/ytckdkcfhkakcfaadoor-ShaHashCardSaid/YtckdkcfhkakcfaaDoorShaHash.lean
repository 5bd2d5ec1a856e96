/- In the Go program's model the law ShaHash of package bullalaw01 returns true for every input, and leaves all memory that was there as it was: a hash that bytes are written to, one list behind the other, and that is copied at any step, has at each step the digest of all bytes by the document's own answer, and their number (lists of at most 30 steps, of at most 200 bytes each; the law says nothing of longer ones).
   Conditions: the package-level variables start and rounds of package sha hold what the program's text lays in them; the card ties them to that text. -/
import Derived.Test.YtckdkcfhkakcfaaDoorOpn
import Derived.Test.YtckdkcfhkakcfaaDoorOpn2
import Derived.Test.YtckdkcfhkakcfaaDoorSv2
import Derived.Test.YtckdkcfhkakcfaaDoorLift
import Derived.Test.YtckdkcfhkakcfaaDoorCards
import Derived.Test.YtckdkcfhkakcfaaDoorTie
import Derived.SevenTiedAt
namespace Go.Proofs.YtckdkcfhkakcfaaDoor
open Go.ChangeShapes Go.WideShapes Go.ChangeAt Go.RowKit

set_option maxRecDepth 100000 in
theorem shaHash_lifted (os : Os) (started : os.Started) (H : Type) (enc : TypeId × Value → H) :
    ReturnsInHanded {} Tryd.checked os 4 .any (fun w args => (Rows.shaHashSpec.pre enc Tryd.prog Tryd.f4 [] false w args ∧ laidMetH Tryd.prog laids w) ∧ sizedMet enc Tryd.prog Tryd.f4 (OpenSpec.ofChange Rows.shaHashSpec) false w args)
      (Rows.shaHashSpec.post enc Tryd.prog Tryd.f4 false true false false) := by
  refine returnsInHanded_of_change_and (C := Tryd.checked) (X := fun w _ => laidMetH Tryd.prog laids w) (fun _ _ _ hh h => h.of_heap hh) own started (by kernel_rfl) Tryd.func4
    (ChangeSpec.witness_shaped (enc := enc) (C := Tryd.checked) (os := os) (X := fun w _ => laidMetH Tryd.prog laids w) false (World.laidAll Tryd.prog os laids) #[.slice none 0 0] 8 (World.laidAll_os _ _ _) (World.shaped_of_ZipB (by kernel_rfl) (by kernel_rfl)) (by kernel_rfl) (by kernel_rfl) (by kernel_rfl)
      (by rw [MakeChecks.laidMetH_plain _ _ _ (by kernel_rfl)]; exact laidMet_laidAll _ (by kernel_rfl) (by kernel_rfl))) ?_
  intro W base args ds gs before hval0 hW _ _ hL _
  have hval : ∀ (j : Nat) t v, Tryd.f4.params[j]? = some t → args[j]? = some v → Value.okWide Tryd.prog W .any base t v := hval0
  have hW' := hW
  obtain ⟨p, q, hA0, hV, rfl, hfz, hnd⟩ := hW
  have hA : DataW.TrodAll enc Tryd.prog W 0 (fun _ => true) true Tryd.f4.params.toList args.toList ds p := hA0
  rw [Tryd.params4] at hA hval
  obtain ⟨v0, d0, rfl, rfl, h0⟩ := trodAll_one hA
  obtain ⟨rfl, rfl⟩ := trodVars_none hV
  have hlt : ∀ x ∈ p, x.block < W.heap.size := fun x hx => hW'.lt x (by simpa using hx)
  obtain ⟨a0, l0, c0, rfl⟩ := okWide_slice Tryd.underlying33 (hval 0 33 v0 rfl rfl)
  have h0' := h0
  obtain ⟨fuel, hf⟩ := h0'
  obtain ⟨a, sb, so, n, c, steps, hcs, hn, ha, hP, hnn⟩ := steps_in hf
  have hv : Value.slice a0 l0 c0 = .slice a n c := by simpa [Value.cells] using hcs
  rw [hv] at hW' h0 ⊢
  have hL2 : Laid W := laid_of (by have := hL; rw [MakeChecks.laidMetH_plain _ _ _ (by kernel_rfl)] at this; exact this)
  refine (shaHash_any steps a sb so n c hn W ha hP (by unfold maxLen at hnn; omega) hL2).mono fun e W' ⟨he, hg⟩ => ?_
  subst he
  have bel := below_of hg
  exact ⟨_, rfl, [d0], [], _, [], p, [], hW', trodAll_mk1 (shut_bool Tryd.underlying4 _),
    trodAll_mk1 (Below.trod laidOut (by kernel_rfl) (of_decide_eq_true (by kernel_rfl)) h0 bel hlt), rfl, bel.frame _, fun h => by cases h⟩

theorem shaHash_holds : Rows.ShaHashSaid :=
  OpenClaim.holds_of_wide 4 Tryd.f4 rfl rfl rfl rfl rfl rfl rfl ⟨rfl, rfl, rfl, rfl, rfl⟩ rfl rfl rfl rfl rfl (by kernel_rfl) Tryd.func4 (by kernel_rfl)
    (of_decide_eq_true (by kernel_rfl)) (by unfold Func.isWrapper; rw [if_neg (of_decide_eq_false (by kernel_rfl))]; exact ⟨rfl, rfl⟩)
    (fun os started H enc _ => shaHash_lifted os started H enc)

theorem shaHash_card : Rows.ShaHashCardSaid :=
  Claim7.holds_tied_plain_at .later [] [.data, .data] true (true, "edddc2e813f2d4c463263b8e0a0575494fc9d363cb92ac09b0cd3fa8f86bb4fb") true
    shaHash_holds (fun _ h => by cases h) (by kernel_rfl) (fun _ h => by cases h) shaHash_row_tie rfl ⟨rfl, rfl⟩ (by kernel_rfl) rfl
    (fun f fn hf hfn => by
      obtain rfl : f = 4 := Option.some.inj ((show Tryd.prog.funcNamed "bulla/bullalaw01.ShaHash" = some 4 by kernel_rfl).symm.trans hf) |>.symm
      obtain rfl : fn = Tryd.f4 := (Option.some.inj (Tryd.func4.symm.trans hfn)).symm
      exact ⟨by kernel_rfl, fun j t ht => by
        rw [Tryd.params4] at ht
        rcases j with _ | j
        · simp at ht; subst ht; kernel_rfl
        · simp at ht⟩)
    (by kernel_rfl)
#print axioms shaHash_card
end Go.Proofs.YtckdkcfhkakcfaaDoor
