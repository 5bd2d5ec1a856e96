/- In the Go program's model the law BundleAny of package bullalaw13 returns true for every row of anchors and every key, and leaves all memory that was there as it was: anchors that With takes in two orders (the row's own, and the row turned by the key) make the same bundle, with the same generations and the anchor it began with, and an anchor that goes and comes again leaves the bundle as it was, its version two higher (the law says nothing of fewer than two anchors or more than eight, or of names of more than 100 bytes).
   Conditions: the variables that the row lists (package api's 28 errors, moments' table of months, and utf8's two tables) hold what the program's text lays in them; the card ties them to that text. -/
import Derived.Test.YtihioekepflpiaaGreatDoorZb00
import Derived.Test.YtihioekepflpiaaGreatDoorZb01
import Derived.Test.YtihioekepflpiaaGreatDoorZb02
import Derived.Test.YtihioekepflpiaaGreatDoorZb03
import Derived.Test.YtihioekepflpiaaGreatDoorZb04
import Derived.Test.YtihioekepflpiaaGreatDoorZb05
import Derived.Test.YtihioekepflpiaaGreatDoorZb06
import Derived.Test.YtihioekepflpiaaGreatDoorZb08
import Derived.Test.YtihioekepflpiaaGreatDoorZb09
import Derived.Test.YtihioekepflpiaaGreatDoorZb10
import Derived.Test.YtihioekepflpiaaGreatDoorZb11
import Derived.Test.YtihioekepflpiaaGreatDoorZb12
import Derived.Test.YtihioekepflpiaaGreatDoorZb13
import Derived.Test.YtihioekepflpiaaGreatDoorZb14
import Derived.Test.YtihioekepflpiaaGreatDoorZb15
import Derived.Test.YtihioekepflpiaaGreatDoorZb16
import Derived.Test.YtihioekepflpiaaGreatDoorZb17
import Derived.Test.YtihioekepflpiaaGreatDoorZb18
import Derived.Test.YtihioekepflpiaaGreatDoorZb19
import Derived.Test.YtihioekepflpiaaGreatDoorZb20
import Derived.Test.YtihioekepflpiaaGreatDoorZb21
import Derived.Test.YtihioekepflpiaaGreatDoorZb22
import Derived.Test.YtihioekepflpiaaGreatDoorZb23
import Derived.Test.YtihioekepflpiaaGreatDoorZb24
import Derived.Test.YtihioekepflpiaaGreatDoorZb25
import Derived.Test.YtihioekepflpiaaGreatDoorZb26
import Derived.Test.YtihioekepflpiaaGreatDoorZb27
import Derived.Test.YtihioekepflpiaaGreatDoorZb28
import Derived.Test.YtihioekepflpiaaGreatDoorZb29
import Derived.Test.YtihioekepflpiaaGreatDoorZb30
import Derived.Test.YtihioekepflpiaaGreatDoorZb31
import Derived.Test.YtihioekepflpiaaGreatDoorZb32
import Derived.Test.YtihioekepflpiaaGreatDoorZb33
import Derived.Test.YtihioekepflpiaaGreatDoorZb34
import Derived.Test.YtihioekepflpiaaGreatDoorZb36
import Derived.Test.YtihioekepflpiaaGreatDoorZb37
import Derived.Test.YtihioekepflpiaaGreatDoorZb38
import Derived.Test.YtihioekepflpiaaGreatDoorZb39
import Derived.Test.YtihioekepflpiaaGreatDoorZb40
import Derived.Test.YtihioekepflpiaaGreatDoorZb41
import Derived.Test.YtihioekepflpiaaGreatDoorZb42
import Derived.Test.YtihioekepflpiaaGreatDoorZb43
import Derived.Test.YtihioekepflpiaaGreatDoorZb44
import Derived.Test.YtihioekepflpiaaGreatDoorZb45
import Derived.Test.YtihioekepflpiaaGreatDoorZb46
import Derived.Test.YtihioekepflpiaaGreatDoorZb47
import Derived.Test.YtihioekepflpiaaGreatDoorZb48
import Derived.Test.YtihioekepflpiaaGreatDoorZc00
import Derived.Test.YtihioekepflpiaaGreatDoorZc01
import Derived.Test.YtihioekepflpiaaGreatDoorZc02
import Derived.Test.YtihioekepflpiaaGreatDoorZc03
import Derived.Test.YtihioekepflpiaaGreatDoorCards
import Derived.Test.YtihioekepflpiaaGreatDoorTie
import Derived.SevenTiedAt
import Derived.Lib.SmallJoins
import Derived.Test.YtihioekepflpiaaGreatDoorRows
import Derived.ProofKit
import Derived.OpenShut
import Derived.Lay
import Derived.Stop.LaidErr
import Derived.Below
import Derived.Carry
import Derived.LaidMore
import Derived.WalkKit
import Derived.WalkSpells
import Derived.WalkLawsBesides
import Derived.Deep.QuietTactic
import Derived.BigQuiet
import Derived.Laws.BitsAllLaws
import Derived.Lib.Hide
import Derived.Laws.AppendOwnNone
import Derived.Laws.BytesArg
import Derived.Lib.AppendStr
import Derived.OwnWalk
import Derived.Deep.MidRow
import Derived.Deep.Draws
import Derived.Test.YtihioekepflpiaaGreatDoorChecked
import Derived.LaidEql
import Derived.Stop.Asserts
import Derived.RowKitTokens
import Derived.Laws.RangeString
import Derived.Laws.RangeAny
import Derived.Lib.RuneCount
import Derived.Lib.TrimUEq
import Derived.Lib.ValidLaws
import Derived.Lib.DecodeN
import Derived.Lib.ConvBytes
import Derived.Shelf.Unicode.ValidAny
import Derived.Shelf.SlSortCmp.Whole1
import Derived.Shelf.SlSortCmp.NoneTotal
import Derived.Shelf.SlCmpFuncs.IsSortedFunc
import Derived.Shelf.SlicesE.Clone
import Derived.Shelf.Spec.SlicesGrow
import Derived.Test.YtihioekepflpiaaGreatDoorProg
import Derived.KernelRfl
import Derived.Laws.Slices
import Derived.Laws.Cover3
import Derived.Laws.Rows
import Derived.Laws.Tables
import Derived.OrdersHeld
import Derived.Deep.RegionHeld3
import Derived.Deep.Quiet
import Derived.StillTail
import Derived.Lib.LaidTab
import Derived.Lib.LaidU8T
import Derived.PinnedBridge
import Derived.Laws.OwnMore
import Derived.Lib.Bytealg
import Derived.Laws.Externs
import Derived.Lib.BitFns
import Derived.Lib.Strings
import Derived.Lib.Slices
import Derived.Lib.Small
import Derived.Lib.Walk
import Derived.LoopTactic
import Derived.Deep.DeepCutAuto
import Derived.DeepKeys5
import Derived.Handy
import Derived.Maps.Keyed
import Derived.Maps.OwnSet
import Derived.Lib.SliceRun
import Derived.Shelf.SlGeneric
import Derived.Shelf.SlSortCmp.WholeK
import Derived.Shelf.SlLaysF0
import Derived.Deep.RegionLaw
import Derived.Laws.IdiomCopy
import Derived.Lib.AtoiBound
import Derived.Shelf.Strconv.Atoi
import Derived.Shelf.Strconv.Itoa3
import Derived.Shelf.LaysM
import Derived.Shelf.LaysC
import Derived.Shelf.Strconv.ErrVar
import Derived.RegionTactic
import Derived.BigRegion
import Derived.ChangeAlike
import Derived.Shelf.Small.Bits
namespace Go.Proofs.YtihioekepflpiaaGreatDoor
open Go.ChangeShapes Go.WideShapes Go.ChangeAt Go.RowKit Bu
theorem bundleAny_any (A : Nat → Addr) (u : Value) (l : List An) (t : Int) (w : World) (hA : Ans w u l) (hB : BodiesOf A w) (ht1 : -9223372036854775808 ≤ t) (ht2 : t ≤ 9223372036854775807) :
    Calls Tryz.prog 4 #[u, .int .i64 t] w fun e w' => e = .returned (.bool true) ∧ w.grownBy w' none :=
  bany_any A u l t w hA hB.errs ht1 ht2 (fun W hW => alive13_any W (BodiesOf.up9 hB hW))
set_option maxRecDepth 100000 in
theorem bundleAny_lifted (os : Os) (started : os.Started) (H : Type) (enc : TypeId × Value → H) :
    ReturnsInHanded {} Tryz.checked os 4 .any (fun w args => (Rows.bundleAnySpec.pre enc Tryz.prog Tryz.f4 [] false w args ∧ laidMetH Tryz.prog laidsBS w) ∧ sizedMet enc Tryz.prog Tryz.f4 (OpenSpec.ofChange Rows.bundleAnySpec) false w args)
      (Rows.bundleAnySpec.post enc Tryz.prog Tryz.f4 false true false false) := by
  refine returnsInHanded_of_change_and (C := Tryz.checked) (X := fun w _ => laidMetH Tryz.prog laidsBS w) (fun _ _ _ hh h => h.of_heap hh) own2 started (by kernel_rfl) Tryz.func4
    (ChangeSpec.witness_shaped (enc := enc) (C := Tryz.checked) (os := os) (X := fun w _ => laidMetH Tryz.prog laidsBS w) false (World.laidAll Tryz.prog os laidsBS) #[.slice none 0 0, .int .i64 0] 8 (World.laidAll_os _ _ _) (World.shaped_of_ZipB (by kernel_rfl) (by kernel_rfl)) (by kernel_rfl) (by kernel_rfl) (by kernel_rfl)
      (by rw [MakeChecks.laidMetH_plain _ _ _ (by kernel_rfl)]; exact laidMet_laidAll _ (by kernel_rfl) (by kernel_rfl))) ?_
  intro W base args ds gs before hval0 hW _ _ hL _
  have hval : ∀ (j : Nat) t v, Tryz.f4.params[j]? = some t → args[j]? = some v → Value.okWide Tryz.prog W .any base t v := hval0
  have hW' := hW
  obtain ⟨p, q, hA0, hV, rfl, hfz, hnd⟩ := hW
  have hA : DataW.TrodAll enc Tryz.prog W 0 (fun _ => true) true Tryz.f4.params.toList args.toList ds p := hA0
  rw [Tryz.params4] at hA hval
  obtain ⟨v0, v1, d0, d1, p0, p1, rfl, rfl, rfl, h0, h1⟩ := trodAll_two hA
  obtain ⟨rfl, rfl⟩ := trodVars_none hV
  have hlt : ∀ x ∈ p0 ++ p1, x.block < W.heap.size := fun x hx => hW'.lt x (by simpa using hx)
  have hlt0 : ∀ x ∈ p0, x.block < W.heap.size := fun x hx => hlt x (by simp [hx])
  have hlt1 : ∀ x ∈ p1, x.block < W.heap.size := fun x hx => hlt x (by simp [hx])
  obtain ⟨fu, h0'⟩ := id h0
  obtain ⟨sv, al, hcs, hAn⟩ := ans_in h0'
  obtain ⟨va, vn, vc, rfl⟩ := okWide_slice Tryz.underlying22 (hval 0 22 v0 rfl rfl)
  obtain rfl : Value.slice va vn vc = sv := by simpa [Value.cells] using hcs
  obtain ⟨z1, rfl, hz1, hz2⟩ := int_in (hval 1 3 v1 rfl rfl)
  have hL3 := hL
  rw [MakeChecks.laidMetH_plain _ _ _ (by kernel_rfl)] at hL3
  obtain ⟨A, hBo⟩ := rowB_of hL3

  refine (bundleAny_any A (.slice va vn vc) al z1 W hAn hBo hz1 hz2).mono fun e W' ⟨he, hg⟩ => ?_
  subst he
  have bel : Below W.heap.size W W' := ⟨hg.os, hg.tape, hg.output, hg.size, fun k hk => hg.block k hk (by simp)⟩
  exact ⟨_, rfl, [d0, d1], [], _, [], p0 ++ p1, [], hW', trodAll_mk1 (shut_bool Tryz.underlying4 _),
    trodAll_mk2 (Below.trod laidOut2 (by kernel_rfl) (of_decide_eq_true (by kernel_rfl)) h0 bel hlt0) (Below.trod laidOut2 (by kernel_rfl) (of_decide_eq_true (by kernel_rfl)) h1 bel hlt1), rfl, bel.frame _, fun h => by cases h⟩
theorem bundleAny_holds : Rows.BundleAnySaid :=
  OpenClaim.holds_of_wide 4 Tryz.f4 rfl rfl rfl rfl rfl rfl rfl ⟨rfl, rfl, rfl, rfl, rfl⟩ rfl rfl rfl rfl rfl (by kernel_rfl) Tryz.func4 bundleAny_closed
    (of_decide_eq_true (by kernel_rfl)) (by unfold Func.isWrapper; rw [if_neg (of_decide_eq_false (by kernel_rfl))]; exact ⟨rfl, rfl⟩)
    (fun os started H enc _ => bundleAny_lifted os started H enc)
theorem bundleAny_card : Rows.BundleAnyCardSaid :=
  Claim7.holds_tied_plain_at .later [] Rows.bundleAnyCard.laidKinds true Rows.bundleAnyCard.stood.harness true
    bundleAny_holds (fun _ h => by cases h) (by kernel_rfl) (fun _ h => by cases h) bundleAny_row_tie rfl ⟨rfl, rfl⟩ (by kernel_rfl) rfl
    (fun f fn hf hfn => by
      obtain rfl : f = 4 := Option.some.inj ((show Tryz.prog.funcNamed "bulla/bullalaw13.BundleAny" = some 4 by kernel_rfl).symm.trans hf) |>.symm
      obtain rfl : fn = Tryz.f4 := (Option.some.inj (Tryz.func4.symm.trans hfn)).symm
      exact ⟨by kernel_rfl, fun j t ht => by
        rw [Tryz.params4] at ht
        rcases j with _ | _ | j
        · simp at ht; subst ht; kernel_rfl
        · simp at ht; subst ht; kernel_rfl
        · simp at ht⟩)
    (by kernel_rfl)
#print axioms bundleAny_card
end Go.Proofs.YtihioekepflpiaaGreatDoor
