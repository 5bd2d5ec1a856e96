/- In the Go program's model the law BundleBytes of package bullalaw13 returns true for every bundle,and leaves all memory that was there as it was: which bundles are right is the document's own answer,a bundle is the same as itself,what isn't right has no bytes (the error is ErrForm),and of what is right Bytes makes the document's own bytes,which Read reads as that bundle;Gens tells its generations (the law says nothing of more than 20 anchors,or of texts of more than 100 bytes).
 Conditions: the variables that the row lists (package api's 28 errors,moments' table of months,and utf8's two tables) hold what the program's text lays in them;the card ties them to that text. -/
import Derived.Test.YtjjbkpjjmbfdhaaGreatDoorZb04
import Derived.Test.YtjjbkpjjmbfdhaaGreatDoorZb19
import Derived.Test.YtjjbkpjjmbfdhaaGreatDoorZb22
import Derived.Test.YtjjbkpjjmbfdhaaGreatDoorZb48
import Derived.Test.YtjjbkpjjmbfdhaaGreatDoorCards
import Derived.Test.YtjjbkpjjmbfdhaaGreatDoorTie
import Derived.SevenTiedAt
set_option linter.unusedVariables false
set_option linter.unusedSimpArgs false
set_option maxRecDepth 100000
namespace Go.Proofs.YtjjbkpjjmbfdhaaGreatDoor
open Go.ChangeShapes Go.WideShapes Go.ChangeAt Go.RowKit Bu
theorem bundleBytes_lifted (os:Os) (started:os.Started) (H:Type) (enc:TypeId×Value→H) :
  ReturnsInHanded {} Tryz.checked os 3 .any (fun w args=>(Rows.bundleBytesSpec.pre enc Tryz.prog Tryz.f3 [] false w args∧laidMetH Tryz.prog laidsBS w)∧sizedMet enc Tryz.prog Tryz.f3 (OpenSpec.ofChange Rows.bundleBytesSpec) false w args)
   (Rows.bundleBytesSpec.post enc Tryz.prog Tryz.f3 false true false false):=by
 refine returnsInHanded_of_change_and (C:=Tryz.checked) (X:=fun w _=>laidMetH Tryz.prog laidsBS w) (fun _ _ _ hh h=>h.of_heap hh) own2 started (by kernel_rfl) Tryz.func3
  (ChangeSpec.witness_shaped (enc:=enc) (C:=Tryz.checked) (os:=os) (X:=fun w _=>laidMetH Tryz.prog laidsBS w) false (World.laidAll Tryz.prog os laidsBS) #[.agg #[.int .i64 0,.string .empty,.slice none 0 0]] 8 (World.laidAll_os _ _ _) (World.shaped_of_ZipB (by kernel_rfl) (by kernel_rfl)) (by kernel_rfl) (by kernel_rfl) (by kernel_rfl)
   (by rw[MakeChecks.laidMetH_plain _ _ _ (by kernel_rfl)];exact laidMet_laidAll _ (by kernel_rfl) (by kernel_rfl))) ?_
 intro W base args ds gs before hval0 hW _ _ hL _
 have hval:∀ (j:Nat) t v,Tryz.f3.params[j]?=some t→args[j]?=some v→Value.okWide Tryz.prog W .any base t v:=hval0
 have hW':=hW
 obtain ⟨p,q,hA0,hV,rfl,hfz,hnd⟩:=hW
 have hA:DataW.TrodAll enc Tryz.prog W 0 (fun _=>true) true Tryz.f3.params.toList args.toList ds p:=hA0
 rw[Tryz.params3] at hA hval
 obtain ⟨v0,d0,rfl,rfl,h0⟩:=trodAll_one hA
 obtain ⟨rfl,rfl⟩:=trodVars_none hV
 have hlt:∀ x∈p,x.block<W.heap.size:=fun x hx=>hW'.lt x (by simpa using hx)
 have hlt0:∀ x∈p,x.block<W.heap.size:=fun x hx=>hlt x (by simp[hx])
 obtain ⟨c0,c1,c2,y0,y1,y2,k0,rfl,_,_,g0,g1,g2⟩:=Go.Joins.open_agg3 Tryz.underlying24 (by kernel_rfl) (by kernel_rfl) (hval 0 24 v0 rfl rfl) h0
 obtain ⟨n0,e0,_,b0⟩:=DataW.trod_int Tryz.underlying3 g0
 obtain ⟨n1,e1,_⟩:=DataW.trod_string Tryz.underlying9 g1
 obtain rfl:=(List.cons.inj e0).1
 obtain rfl:=(List.cons.inj e1).1
 obtain ⟨av,al,e2,hAn⟩:=ans_in g2
 obtain rfl:=(List.cons.inj e2).1
 have hbd:=bounds_i64 b0
 have hL3:=hL
 rw[MakeChecks.laidMetH_plain _ _ _ (by kernel_rfl)] at hL3
 obtain ⟨A,hBo,hRo⟩:=rowBR_of hL3
 refine (bbytes_any A n0 n1 c2 al W hAn hBo hRo (by omega) (by omega)).mono fun e W' ⟨he,hg⟩=>?_
 subst he
 have bel:Below W.heap.size W W':=⟨hg.os,hg.tape,hg.output,hg.size,fun k hk=>hg.block k hk (by simp)⟩
 exact ⟨_,rfl,[d0],[],_,[],p,[],hW',trodAll_mk1 (shut_bool Tryz.underlying4 _),
  trodAll_mk1 (Below.trod laidOut2 (by kernel_rfl) (of_decide_eq_true (by kernel_rfl)) h0 bel hlt0),rfl,bel.frame _,fun h=>by cases h⟩
theorem bundleBytes_holds:Rows.BundleBytesSaid :=
 OpenClaim.holds_of_wide 3 Tryz.f3 rfl rfl rfl rfl rfl rfl rfl ⟨rfl,rfl,rfl,rfl,rfl⟩ rfl rfl rfl rfl rfl (by kernel_rfl) Tryz.func3 bundleBytes_closed
  (of_decide_eq_true (by kernel_rfl)) (by unfold Func.isWrapper;rw[if_neg (of_decide_eq_false (by kernel_rfl))];exact ⟨rfl,rfl⟩)
  (fun os started H enc _=>bundleBytes_lifted os started H enc)
theorem bundleBytes_card:Rows.BundleBytesCardSaid :=
 Claim7.holds_tied_plain_at .later [] Rows.bundleBytesCard.laidKinds true Rows.bundleBytesCard.stood.harness true
  bundleBytes_holds (fun _ h=>by cases h) (by kernel_rfl) (fun _ h=>by cases h) bundleBytes_row_tie rfl ⟨rfl,rfl⟩ (by kernel_rfl) rfl
  (fun f fn hf hfn=>by
   obtain rfl:f=3:=Option.some.inj ((show Tryz.prog.funcNamed "bulla/bullalaw13.BundleBytes"=some 3 by kernel_rfl).symm.trans hf) |>.symm
   obtain rfl:fn=Tryz.f3:=(Option.some.inj (Tryz.func3.symm.trans hfn)).symm
   exact ⟨by kernel_rfl,fun j t ht=>by
    rw[Tryz.params3] at ht
    rcases j with _|j
    ·simp at ht;subst ht;kernel_rfl
    ·simp at ht⟩)
  (by kernel_rfl)
#print axioms bundleBytes_card
end Go.Proofs.YtjjbkpjjmbfdhaaGreatDoor
