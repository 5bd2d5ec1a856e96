/- In the Go program's model the law MacApart of package bullalaw02 returns true for every input, and leaves all memory that was there as it was: of two words and lists of parts that mac.Frame takes, the one's framed text begins the other's only where words and parts are the same (words of at most 100 bytes, lists of at most 20 parts of at most 300 bytes each; the law says nothing of longer ones).
   Conditions: the package-level variables ErrText and ErrLong of package api hold what the program's text lays in them; the card ties them to that text. -/
import Derived.Test.YtckdkcfhkakcfaaDoorOpn
import Derived.Test.YtckdkcfhkakcfaaDoorAr3
import Derived.Test.YtckdkcfhkakcfaaDoorCards
import Derived.Test.YtckdkcfhkakcfaaDoorTie
import Derived.SevenTiedAt
namespace Go.Proofs.YtckdkcfhkakcfaaDoor
open Go.ChangeShapes Go.WideShapes Go.ChangeAt Go.RowKit

abbrev laidsA : List (String × DataW Unit) := [("bulla/api.ErrLong", Rows.laid_bulla_api_ErrLong), ("bulla/api.ErrText", Rows.laid_bulla_api_ErrText)]

set_option maxRecDepth 100000 in
theorem macApart_lifted (os : Os) (started : os.Started) (H : Type) (enc : TypeId × Value → H) :
    ReturnsInHanded {} Tryd.checked os 8 .any (fun w args => (Rows.macApartSpec.pre enc Tryd.prog Tryd.f8 [] false w args ∧ laidMetH Tryd.prog laidsA w) ∧ sizedMet enc Tryd.prog Tryd.f8 (OpenSpec.ofChange Rows.macApartSpec) false w args)
      (Rows.macApartSpec.post enc Tryd.prog Tryd.f8 false true false false) := by
  refine returnsInHanded_of_change_and (C := Tryd.checked) (X := fun w _ => laidMetH Tryd.prog laidsA w) (fun _ _ _ hh h => h.of_heap hh) own2 started (by kernel_rfl) Tryd.func8
    (ChangeSpec.witness_shaped (enc := enc) (C := Tryd.checked) (os := os) (X := fun w _ => laidMetH Tryd.prog laidsA w) false (World.laidAll Tryd.prog os laidsA) #[.agg #[.string ⟨#[]⟩, .slice none 0 0], .agg #[.string ⟨#[]⟩, .slice none 0 0]] 8 (World.laidAll_os _ _ _) (World.shaped_of_ZipB (by kernel_rfl) (by kernel_rfl)) (by kernel_rfl) (by kernel_rfl) (by kernel_rfl)
      (by rw [MakeChecks.laidMetH_plain _ _ _ (by kernel_rfl)]; exact laidMet_laidAll _ (by kernel_rfl) (by kernel_rfl))) ?_
  intro W base args ds gs before hval0 hW _ _ hL _
  have hval : ∀ (j : Nat) t v, Tryd.f8.params[j]? = some t → args[j]? = some v → Value.okWide Tryd.prog W .any base t v := hval0
  have hW' := hW
  obtain ⟨p, q, hA0, hV, rfl, hfz, hnd⟩ := hW
  have hA : DataW.TrodAll enc Tryd.prog W 0 (fun _ => true) true Tryd.f8.params.toList args.toList ds p := hA0
  rw [Tryd.params8] at hA hval
  obtain ⟨v0, v1, d0, d1, p0, p1, rfl, rfl, rfl, h0, h1⟩ := trodAll_two hA
  obtain ⟨rfl, rfl⟩ := trodVars_none hV
  have hlt : ∀ x ∈ p0 ++ p1, x.block < W.heap.size := fun x hx => hW'.lt x (by simpa using hx)
  have hlt0 : ∀ x ∈ p0, x.block < W.heap.size := fun x hx => hlt x (by simp [hx])
  have hlt1 : ∀ x ∈ p1, x.block < W.heap.size := fun x hx => hlt x (by simp [hx])
  obtain ⟨x0, x1, y0, y1, k0, rfl, rfl, rfl, e0, e1⟩ := Joins.open_agg2 Tryd.underlying59 (by kernel_rfl) (show Tryd.prog.cellsOf 59 = 2 by kernel_rfl) (hval 0 59 v0 rfl rfl) h0
  obtain ⟨z0, z1, u0, u1, k1, rfl, rfl, rfl, g0, g1⟩ := Joins.open_agg2 Tryd.underlying59 (by kernel_rfl) (show Tryd.prog.cellsOf 59 = 2 by kernel_rfl) (hval 1 59 v1 rfl rfl) h1
  obtain ⟨s1, hx0, _, hm1⟩ := DataW.trod_string Tryd.underlying9 e0
  obtain ⟨s2, hz0, _, hm2⟩ := DataW.trod_string Tryd.underlying9 g0
  obtain ⟨a, sa, oa, n, ca, A, hx1, hn, ha, hPA, hnn⟩ := parts_in e1
  obtain ⟨b, sb, ob, m, cb, B, hz1, hm, hb, hPB, hmm⟩ := parts_in g1
  simp only [List.cons.injEq, and_true] at hx0 hx1 hz0 hz1
  subst hx0 hx1 hz0 hz1
  obtain ⟨aT, aL, hE⟩ := errs_of (r := []) (by have := hL; rw [MakeChecks.laidMetH_plain _ _ _ (by kernel_rfl)] at this; exact this)
  refine (macApart_any s1 s2 A B a sa oa n ca hn b sb ob m cb hm W ha hPA hb hPB (by unfold maxLen at hnn; omega) (by unfold maxLen at hmm; omega) (by unfold maxLen at hm1; omega) (by unfold maxLen at hm2; omega) aT aL hE).mono fun e W' ⟨he, hg⟩ => ?_
  subst he
  have bel : Below W.heap.size W W' := ⟨hg.os, hg.tape, hg.output, hg.size, fun k hk => hg.block k hk (by simp)⟩
  exact ⟨_, rfl, [.agg [y0.1, y1.1], .agg [u0.1, u1.1]], [], _, [], (y0.2 ++ y1.2) ++ (u0.2 ++ u1.2), [], hW', trodAll_mk1 (shut_bool Tryd.underlying4 _),
    trodAll_mk2 (Below.trod laidOut2 (by kernel_rfl) (of_decide_eq_true (by kernel_rfl)) h0 bel hlt0) (Below.trod laidOut2 (by kernel_rfl) (of_decide_eq_true (by kernel_rfl)) h1 bel hlt1), rfl, bel.frame _, fun h => by cases h⟩

theorem macApart_holds : Rows.MacApartSaid :=
  OpenClaim.holds_of_wide 8 Tryd.f8 rfl rfl rfl rfl rfl rfl rfl ⟨rfl, rfl, rfl, rfl, rfl⟩ rfl rfl rfl rfl rfl (by kernel_rfl) Tryd.func8 (by kernel_rfl)
    (of_decide_eq_true (by kernel_rfl)) (by unfold Func.isWrapper; rw [if_neg (of_decide_eq_false (by kernel_rfl))]; exact ⟨rfl, rfl⟩)
    (fun os started H enc _ => macApart_lifted os started H enc)

theorem macApart_card : Rows.MacApartCardSaid :=
  Claim7.holds_tied_plain_at .later [] [.sentinel, .sentinel] true (true, "edddc2e813f2d4c463263b8e0a0575494fc9d363cb92ac09b0cd3fa8f86bb4fb") true
    macApart_holds (fun _ h => by cases h) (by kernel_rfl) (fun _ h => by cases h) macApart_row_tie rfl ⟨rfl, rfl⟩ (by kernel_rfl) rfl
    (fun f fn hf hfn => by
      obtain rfl : f = 8 := Option.some.inj ((show Tryd.prog.funcNamed "bulla/bullalaw02.MacApart" = some 8 by kernel_rfl).symm.trans hf) |>.symm
      obtain rfl : fn = Tryd.f8 := (Option.some.inj (Tryd.func8.symm.trans hfn)).symm
      exact ⟨by kernel_rfl, fun j t ht => by
        rw [Tryd.params8] at ht
        rcases j with _ | _ | j
        · simp at ht; subst ht; kernel_rfl
        · simp at ht; subst ht; kernel_rfl
        · simp at ht⟩)
    (by kernel_rfl)
#print axioms macApart_card
end Go.Proofs.YtckdkcfhkakcfaaDoor
