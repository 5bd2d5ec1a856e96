/- In the Go program's model the law DerRows of package bullalaw08 returns true for every row of numbers,every tag and every limit,and leaves all memory that was there as it was: der.Rows writes what the document's writer writes of it,with the document's error where the tag is not one that is made of others,and der.Row reads,up to so many,what the document's reader reads of it,with its error where there are more (the law says nothing of more than 60 numbers or a limit below 0).
 Conditions: the 28 errors of package api hold what the program's text lays in them;the card ties them to that text. -/
import Derived.Test.YtndkifkhdollgaaGreatDoorZs04
import Derived.Test.YtndkifkhdollgaaGreatDoorZs23
import Derived.Test.YtndkifkhdollgaaGreatDoorZs27
import Derived.Test.YtndkifkhdollgaaGreatDoorZs50
import Derived.Test.YtndkifkhdollgaaGreatDoorCards
import Derived.Test.YtndkifkhdollgaaGreatDoorTie
import Derived.SevenTiedAt
set_option linter.unusedVariables false
set_option linter.unusedSimpArgs false
set_option maxRecDepth 100000
namespace Go.Proofs.YtndkifkhdollgaaGreatDoor
open Go.ChangeShapes Go.WideShapes Go.ChangeAt Go.RowKit
theorem derRows_lifted (os:Os) (started:os.Started) (H:Type) (enc:TypeId×Value→H) :
  ReturnsInHanded {} Tryz.checked os 4 .any (fun w args=>(Rows.derRowsSpec.pre enc Tryz.prog Tryz.f4 [] false w args∧laidMetH Tryz.prog laids28 w)∧sizedMet enc Tryz.prog Tryz.f4 (OpenSpec.ofChange Rows.derRowsSpec) false w args)
   (Rows.derRowsSpec.post enc Tryz.prog Tryz.f4 false true false false):=by
 refine returnsInHanded_of_change_and (C:=Tryz.checked) (X:=fun w _=>laidMetH Tryz.prog laids28 w) (fun _ _ _ hh h=>h.of_heap hh) own2 started (by kernel_rfl) Tryz.func4
  (ChangeSpec.witness_shaped (enc:=enc) (C:=Tryz.checked) (os:=os) (X:=fun w _=>laidMetH Tryz.prog laids28 w) false (World.laidAll Tryz.prog os laids28) #[.slice none 0 0,.int .i64 0,.int .i64 0] 8 (World.laidAll_os _ _ _) (World.shaped_of_ZipB (by kernel_rfl) (by kernel_rfl)) (by kernel_rfl) (by kernel_rfl) (by kernel_rfl)
   (by rw[MakeChecks.laidMetH_plain _ _ _ (by kernel_rfl)];exact laidMet_laidAll _ (by kernel_rfl) (by kernel_rfl))) ?_
 intro W base args ds gs before hval0 hW _ _ hL _
 have hval:∀ (j:Nat) t v,Tryz.f4.params[j]?=some t→args[j]?=some v→Value.okWide Tryz.prog W .any base t v:=hval0
 have hW':=hW
 obtain ⟨p,q,hA0,hV,rfl,hfz,hnd⟩:=hW
 have hA:DataW.TrodAll enc Tryz.prog W 0 (fun _=>true) true Tryz.f4.params.toList args.toList ds p:=hA0
 rw[Tryz.params4] at hA hval
 obtain ⟨v0,v1,v2,d0,d1,d2,p0,p1,p2,rfl,rfl,rfl,h0,h1,h2⟩:=trodAll_three hA
 obtain ⟨rfl,rfl⟩:=trodVars_none hV
 have hlt:∀ x∈p0++(p1++p2),x.block<W.heap.size:=fun x hx=>hW'.lt x (by simpa using hx)
 have hlt0:∀ x∈p0,x.block<W.heap.size:=fun x hx=>hlt x (by simp[hx])
 have hlt1:∀ x∈p1,x.block<W.heap.size:=fun x hx=>hlt x (by simp[hx])
 have hlt2:∀ x∈p2,x.block<W.heap.size:=fun x hx=>hlt x (by simp[hx])
 obtain ⟨T,hT,hmT,hrT⟩:=ints_in h0 (okWide_slice Tryz.underlying46 (hval 0 46 v0 rfl rfl))
 obtain ⟨va,vn,vc,rfl⟩:=okWide_slice Tryz.underlying46 (hval 0 46 v0 rfl rfl)
 obtain ⟨z1,rfl⟩:=okWide_int Tryz.underlying3 (hval 1 3 v1 rfl rfl)
 obtain ⟨z2,rfl⟩:=okWide_int Tryz.underlying3 (hval 2 3 v2 rfl rfl)
 have hL2:=hL
 rw[MakeChecks.laidMetH_plain _ _ _ (by kernel_rfl)] at hL2
 obtain ⟨A,hE⟩:=allErrs_of hL2 (List.range 28) rfl (by decide)
 refine (derRows_any A va vn vc T z1 z2 W hE hT hrT).mono fun e W' ⟨he,hg⟩=>?_
 subst he
 have bel:Below W.heap.size W W':=⟨hg.os,hg.tape,hg.output,hg.size,fun k hk=>hg.block k hk (by simp)⟩
 exact ⟨_,rfl,[d0,d1,d2],[],_,[],p0++(p1++p2),[],hW',trodAll_mk1 (shut_bool Tryz.underlying4 _),
  trodAll_mk3 (Below.trod laidOut2 (by kernel_rfl) (of_decide_eq_true (by kernel_rfl)) h0 bel hlt0) (Below.trod laidOut2 (by kernel_rfl) (of_decide_eq_true (by kernel_rfl)) h1 bel hlt1) (Below.trod laidOut2 (by kernel_rfl) (of_decide_eq_true (by kernel_rfl)) h2 bel hlt2),rfl,bel.frame _,fun h=>by cases h⟩
theorem derRows_holds:Rows.DerRowsSaid :=
 OpenClaim.holds_of_wide 4 Tryz.f4 rfl rfl rfl rfl rfl rfl rfl ⟨rfl,rfl,rfl,rfl,rfl⟩ rfl rfl rfl rfl rfl (by kernel_rfl) Tryz.func4 derRows_closed
  (of_decide_eq_true (by kernel_rfl)) (by unfold Func.isWrapper;rw[if_neg (of_decide_eq_false (by kernel_rfl))];exact ⟨rfl,rfl⟩)
  (fun os started H enc _=>derRows_lifted os started H enc)
theorem derRows_card:Rows.DerRowsCardSaid :=
 Claim7.holds_tied_plain_at .later [] Rows.derRowsCard.laidKinds true Rows.derRowsCard.stood.harness true
  derRows_holds (fun _ h=>by cases h) (by kernel_rfl) (fun _ h=>by cases h) derRows_row_tie rfl ⟨rfl,rfl⟩ (by kernel_rfl) rfl
  (fun f fn hf hfn=>by
   obtain rfl:f=4:=Option.some.inj ((show Tryz.prog.funcNamed "bulla/bullalaw08.DerRows"=some 4 by kernel_rfl).symm.trans hf) |>.symm
   obtain rfl:fn=Tryz.f4:=(Option.some.inj (Tryz.func4.symm.trans hfn)).symm
   exact ⟨by kernel_rfl,fun j t ht=>by
    rw[Tryz.params4] at ht
    rcases j with _|_|_|j
    ·simp at ht;subst ht;kernel_rfl
    ·simp at ht;subst ht;kernel_rfl
    ·simp at ht;subst ht;kernel_rfl
    ·simp at ht⟩)
  (by kernel_rfl)
#print axioms derRows_card
end Go.Proofs.YtndkifkhdollgaaGreatDoor
