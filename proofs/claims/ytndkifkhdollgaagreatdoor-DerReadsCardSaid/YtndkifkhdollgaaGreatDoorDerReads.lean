/- In the Go program's model the law DerReads of package bullalaw08 returns true for every row of bytes and every list of calls,and leaves all memory that was there as it was: what a program's reader answers of these bytes to these calls,one behind the other,is what the document's reader answers (the law says nothing of more than 1,000 bytes or 60 calls).
 Conditions: the variables that the row lists (package api's 28 errors,moments' table of months,and the library's tables) hold what the program's text lays in them;the card ties them to that text. -/
import Derived.Test.YtndkifkhdollgaaGreatDoorZr03
import Derived.Test.YtndkifkhdollgaaGreatDoorZr25
import Derived.Test.YtndkifkhdollgaaGreatDoorZr37
import Derived.Test.YtndkifkhdollgaaGreatDoorZr49
import Derived.Test.YtndkifkhdollgaaGreatDoorZr50
import Derived.Test.YtndkifkhdollgaaGreatDoorCards
import Derived.Test.YtndkifkhdollgaaGreatDoorTie
import Derived.SevenTiedAt
set_option linter.unusedVariables false
set_option linter.unusedSimpArgs false
set_option maxRecDepth 100000
namespace Go.Proofs.YtndkifkhdollgaaGreatDoor
open Go.ChangeShapes Go.WideShapes Go.ChangeAt Go.RowKit
theorem derReads_lifted (os:Os) (started:os.Started) (H:Type) (enc:TypeId×Value→H) :
  ReturnsInHanded {} Tryz.checked os 3 .any (fun w args=>(Rows.derReadsSpec.pre enc Tryz.prog Tryz.f3 [] false w args∧laidMetH Tryz.prog laidsDR w)∧sizedMet enc Tryz.prog Tryz.f3 (OpenSpec.ofChange Rows.derReadsSpec) false w args)
   (Rows.derReadsSpec.post enc Tryz.prog Tryz.f3 false true false false):=by
 refine returnsInHanded_of_change_and (C:=Tryz.checked) (X:=fun w _=>laidMetH Tryz.prog laidsDR w) (fun _ _ _ hh h=>h.of_heap hh) own2 started (by kernel_rfl) Tryz.func3
  (ChangeSpec.witness_shaped (enc:=enc) (C:=Tryz.checked) (os:=os) (X:=fun w _=>laidMetH Tryz.prog laidsDR w) false (World.laidAll Tryz.prog os laidsDR) #[.slice none 0 0,.slice none 0 0] 8 (World.laidAll_os _ _ _) (World.shaped_of_ZipB (by kernel_rfl) (by kernel_rfl)) (by kernel_rfl) (by kernel_rfl) (by kernel_rfl)
   (by rw[MakeChecks.laidMetH_plain _ _ _ (by kernel_rfl)];exact laidMet_laidAll _ (by kernel_rfl) (by kernel_rfl))) ?_
 intro W base args ds gs before hval0 hW _ _ hL _
 have hval:∀ (j:Nat) t v,Tryz.f3.params[j]?=some t→args[j]?=some v→Value.okWide Tryz.prog W .any base t v:=hval0
 have hW':=hW
 obtain ⟨p,q,hA0,hV,rfl,hfz,hnd⟩:=hW
 have hA:DataW.TrodAll enc Tryz.prog W 0 (fun _=>true) true Tryz.f3.params.toList args.toList ds p:=hA0
 rw[Tryz.params3] at hA hval
 obtain ⟨v0,v1,d0,d1,p0,p1,rfl,rfl,rfl,h0,h1⟩:=trodAll_two hA
 obtain ⟨rfl,rfl⟩:=trodVars_none hV
 have hlt:∀ x∈p0++p1,x.block<W.heap.size:=fun x hx=>hW'.lt x (by simpa using hx)
 have hlt0:∀ x∈p0,x.block<W.heap.size:=fun x hx=>hlt x (by simp[hx])
 have hlt1:∀ x∈p1,x.block<W.heap.size:=fun x hx=>hlt x (by simp[hx])
 obtain ⟨B,hB,hB0,hmB⟩:=bytes_in h0 (okWide_slice Tryz.underlying22 (hval 0 22 v0 rfl rfl))
 obtain ⟨_,ba,_,_,bc,rfl,_,_⟩:=id hB
 have h1':=h1
 obtain ⟨fu,h1'⟩:=h1'
 obtain ⟨a0,sb,so,n0,c0,xs,hcs,hxl,hxa,hxv,hxm,hxc⟩:=asks_in h1'
 obtain ⟨va,vn,vc,rfl⟩:=okWide_slice Tryz.underlying23 (hval 1 23 v1 rfl rfl)
 obtain ⟨rfl,rfl,rfl⟩:va=a0∧vn=n0∧vc=c0:=by simpa [Value.cells] using hcs
 have hL3:=hL
 rw[MakeChecks.laidMetH_plain _ _ _ (by kernel_rfl)] at hL3
 obtain ⟨A,hRd⟩:=rowR_of hL3
 refine (derReads_any A ba bc B va sb so vn vc xs W hB hB0 hxl hxa hxv hxc hRd).mono fun e W' ⟨he,hg⟩=>?_
 subst he
 have bel:Below W.heap.size W W':=⟨hg.os,hg.tape,hg.output,hg.size,fun k hk=>hg.block k hk (by simp)⟩
 exact ⟨_,rfl,[d0,d1],[],_,[],p0++p1,[],hW',trodAll_mk1 (shut_bool Tryz.underlying4 _),
  trodAll_mk2 (Below.trod laidOut2 (by kernel_rfl) (of_decide_eq_true (by kernel_rfl)) h0 bel hlt0) (Below.trod laidOut2 (by kernel_rfl) (of_decide_eq_true (by kernel_rfl)) h1 bel hlt1),rfl,bel.frame _,fun h=>by cases h⟩
theorem derReads_holds:Rows.DerReadsSaid :=
 OpenClaim.holds_of_wide 3 Tryz.f3 rfl rfl rfl rfl rfl rfl rfl ⟨rfl,rfl,rfl,rfl,rfl⟩ rfl rfl rfl rfl rfl (by kernel_rfl) Tryz.func3 derReads_closed
  (of_decide_eq_true (by kernel_rfl)) (by unfold Func.isWrapper;rw[if_neg (of_decide_eq_false (by kernel_rfl))];exact ⟨rfl,rfl⟩)
  (fun os started H enc _=>derReads_lifted os started H enc)
theorem derReads_card:Rows.DerReadsCardSaid :=
 Claim7.holds_tied_plain_at .later [] Rows.derReadsCard.laidKinds true Rows.derReadsCard.stood.harness true
  derReads_holds (fun _ h=>by cases h) (by kernel_rfl) (fun _ h=>by cases h) derReads_row_tie rfl ⟨rfl,rfl⟩ (by kernel_rfl) rfl
  (fun f fn hf hfn=>by
   obtain rfl:f=3:=Option.some.inj ((show Tryz.prog.funcNamed "bulla/bullalaw08.DerReads"=some 3 by kernel_rfl).symm.trans hf) |>.symm
   obtain rfl:fn=Tryz.f3:=(Option.some.inj (Tryz.func3.symm.trans hfn)).symm
   exact ⟨by kernel_rfl,fun j t ht=>by
    rw[Tryz.params3] at ht
    rcases j with _|_|j
    ·simp at ht;subst ht;kernel_rfl
    ·simp at ht;subst ht;kernel_rfl
    ·simp at ht⟩)
  (by kernel_rfl)
#print axioms derReads_card
end Go.Proofs.YtndkifkhdollgaaGreatDoor
