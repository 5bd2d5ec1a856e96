/- In the Go program's model the law NamesWrites of package bullalaw09 returns true for every list of subjects and every list of numbers and leaves all memory that was there as it was: what names.Put and der's Writer write is what the document's writer writes, with the same error, and names.Get and der's Reader read of it what the document's reader reads (the law says nothing of more than 12 subjects or numbers, nor of a namespace or name of more than 200 bytes).
 Conditions: the variables that the row lists hold what the program's text lays in them; the card ties them to that text. -/
import Derived.Test.YtijkaknggdaajaaGreatDoorZw02
import Derived.Test.YtijkaknggdaajaaGreatDoorZw30
import Derived.Test.YtijkaknggdaajaaGreatDoorCards
import Derived.Test.YtijkaknggdaajaaGreatDoorTie
set_option linter.unusedVariables false
set_option linter.unusedSimpArgs false
set_option maxRecDepth 100000
namespace Go.Proofs.YtijkaknggdaajaaGreatDoor
open Go.Proofs.Tryz
open Go.ChangeShapes Go.WideShapes Go.ChangeAt Go.RowKit
theorem zCv (os:Os) (started:os.Started) (H:Type) (enc:TypeId×Value->H) :
  ReturnsInHanded {} Tryz.checked os 5 .any (fun w args=>(Rows.namesWritesSpec.pre enc prog Tryz.f5 [] false w args/\laidMetH prog zDz w)/\sizedMet enc prog Tryz.f5 (OpenSpec.ofChange Rows.namesWritesSpec) false w args)
   (Rows.namesWritesSpec.post enc prog Tryz.f5 false true false false):=by
 refine returnsInHanded_of_change_and (C:=Tryz.checked) (X:=fun w _=>laidMetH prog zDz w) (fun _ _ _ hh h=>h.of_heap hh) own2 started (by kernel_rfl) func5
  (ChangeSpec.witness_shaped (enc:=enc) (C:=Tryz.checked) (os:=os) (X:=fun w _=>laidMetH prog zDz w) false (World.laidAll prog os zDz) #[.slice none 0 0,.slice none 0 0] 8 (World.laidAll_os _ _ _) (World.shaped_of_ZipB (by kernel_rfl) (by kernel_rfl)) (by kernel_rfl) (by kernel_rfl) (by kernel_rfl)
   (by rw[MakeChecks.laidMetH_plain _ _ _ (by kernel_rfl)];exact laidMet_laidAll _ (by kernel_rfl) (by kernel_rfl))) ?_
 intro W base args ds gs before hval0 hW _ _ hL _;have hval:∀ (j:Nat) t v,Tryz.f5.params[j]?=some t->args[j]?=some v->Value.okWide prog W .any base t v:=hval0
 have hW':=hW;obtain⟨p,q,hA0,hV,rfl,hfz,hnd⟩:=hW;have hA:DataW.TrodAll enc prog W 0 (fun _=>true) true Tryz.f5.params.toList args.toList ds p:=hA0;rw[Tryz.params5]at hA hval;obtain⟨v0,v1,d0,d1,p0,p1,rfl,rfl,rfl,h0,h1⟩:=trodAll_two hA;obtain⟨rfl,rfl⟩:=trodVars_none hV;have hlt:∀ x∈p0++p1,x.block<W.heap.size:=fun x hx=>hW'.lt x (by simpa using hx)
 have hlt0:∀ x∈p0,x.block<W.heap.size:=fun x hx=>hlt x (by simp[hx])
 have hlt1:∀ x∈p1,x.block<W.heap.size:=fun x hx=>hlt x (by simp[hx])
 obtain⟨a0,l0,c0,rfl⟩:=okWide_slice underlying50 (hval 0 50 v0 rfl rfl);have h0':=h0;obtain⟨fuel,hf⟩:=h0';obtain⟨qa,qsb,qso,qn,qc,qxs,hcs,hqn,hqa,hqx,_,hqk⟩:=zL9 hf;have hv:Value.slice a0 l0 c0=.slice qa qn qc:=by simpa [Value.cells]using hcs
 simp only[Value.slice.injEq]at hv;obtain⟨rfl,rfl,rfl⟩:=hv;obtain⟨T,hT,hmT,hrT⟩:=zLO h1 (okWide_slice underlying51 (hval 1 51 v1 rfl rfl));obtain⟨va,vn,vc,rfl⟩:=okWide_slice underlying51 (hval 1 51 v1 rfl rfl);have hL3:=hL;rw[MakeChecks.laidMetH_plain _ _ _ (by kernel_rfl)]at hL3;obtain⟨A,hBo,hRd,hWd⟩:=zLi hL3;refine(zDy A a0 va qsb qso l0 c0 vn vc qxs T W hBo hRd hWd hqn hqa hqx hqk hT hrT).mono fun e W' ⟨he,hg⟩=>?_
 subst he;have bel:Below W.heap.size W W':=⟨hg.os,hg.tape,hg.output,hg.size,fun k hk=>hg.block k hk (by simp)⟩;exact⟨_,rfl,[d0,d1],[],_,[],p0++p1,[],hW',trodAll_mk1 (shut_bool underlying4 _),
  trodAll_mk2 (Below.trod zGR (by kernel_rfl) (of_decide_eq_true (by kernel_rfl)) h0 bel hlt0) (Below.trod zGR (by kernel_rfl) (of_decide_eq_true (by kernel_rfl)) h1 bel hlt1),rfl,bel.frame _,fun h=>by cases h⟩
theorem zCN:Rows.NamesWritesSaid :=
 OpenClaim.holds_of_wide 5 Tryz.f5 rfl rfl rfl rfl rfl rfl rfl ⟨rfl,rfl,rfl,rfl,rfl⟩ rfl rfl rfl rfl rfl (by kernel_rfl) func5 zCw
  (of_decide_eq_true (by kernel_rfl)) (by unfold Func.isWrapper;rw[if_neg (of_decide_eq_false (by kernel_rfl))];exact⟨rfl,rfl⟩)
  (fun os started H enc _=>zCv os started H enc)
theorem namesWrites_card:Rows.NamesWritesCardSaid :=
 Claim7.holds_tied_plain_at .later [] Rows.namesWritesCard.laidKinds true Rows.namesWritesCard.stood.harness true
  zCN (fun _ h=>by cases h) (by kernel_rfl) (fun _ h=>by cases h) namesWrites_row_tie rfl ⟨rfl,rfl⟩ (by kernel_rfl) rfl
  (fun f fn hf hfn=>by
   obtain rfl:f=5:=Option.some.inj ((show prog.funcNamed "bulla/bullalaw09.NamesWrites"=some 5 by kernel_rfl).symm.trans hf) |>.symm;obtain rfl:fn=Tryz.f5:=(Option.some.inj (func5.symm.trans hfn)).symm;exact⟨by kernel_rfl,fun j t ht=>by
    rw[Tryz.params5]at ht;rcases j with _|_|j
    ·simp at ht;subst ht;kernel_rfl
    ·simp at ht;subst ht;kernel_rfl
    ·simp at ht⟩)
  (by kernel_rfl)
#print axioms namesWrites_card
end Go.Proofs.YtijkaknggdaajaaGreatDoor
