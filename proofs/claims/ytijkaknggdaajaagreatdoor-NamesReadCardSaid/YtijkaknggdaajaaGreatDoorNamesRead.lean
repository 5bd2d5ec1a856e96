/- In the Go program's model the law NamesRead of package bullalaw09 returns true for every row of bytes,and leaves all memory that was there as it was: names.Read answers what the document's reader of a subject answers,with its error,what was handed in is kept,and bytes that are a subject are the ones that the document writes of it (the law says nothing of more than 1,000 bytes).
 Conditions: the variables that the row lists (package api's 28 errors,names' words,and the library's tables) hold what the program's text lays in them;the card ties them to that text. -/
import Derived.Test.YtijkaknggdaajaaGreatDoorZr06
import Derived.Test.YtijkaknggdaajaaGreatDoorZr23
import Derived.Test.YtijkaknggdaajaaGreatDoorZr49
import Derived.Test.YtijkaknggdaajaaGreatDoorZr50
import Derived.Test.YtijkaknggdaajaaGreatDoorCards
import Derived.Test.YtijkaknggdaajaaGreatDoorTie
import Derived.SevenTiedAt
set_option linter.unusedVariables false
set_option linter.unusedSimpArgs false
set_option maxRecDepth 100000
namespace Go.Proofs.YtijkaknggdaajaaGreatDoor
open Go.ChangeShapes Go.WideShapes Go.ChangeAt Go.RowKit
theorem namesRead_lifted (os:Os) (started:os.Started) (H:Type) (enc:TypeId×Value→H) :
  ReturnsInHanded {} Tryz.checked os 4 .any (fun w args=>(Rows.namesReadSpec.pre enc Tryz.prog Tryz.f4 [] false w args∧laidMetH Tryz.prog laidsNR w)∧sizedMet enc Tryz.prog Tryz.f4 (OpenSpec.ofChange Rows.namesReadSpec) false w args)
   (Rows.namesReadSpec.post enc Tryz.prog Tryz.f4 false true false false):=by
 refine returnsInHanded_of_change_and (C:=Tryz.checked) (X:=fun w _=>laidMetH Tryz.prog laidsNR w) (fun _ _ _ hh h=>h.of_heap hh) own2 started (by kernel_rfl) Tryz.func4
  (ChangeSpec.witness_shaped (enc:=enc) (C:=Tryz.checked) (os:=os) (X:=fun w _=>laidMetH Tryz.prog laidsNR w) false (World.laidAll Tryz.prog os laidsNR) #[.slice none 0 0] 8 (World.laidAll_os _ _ _) (World.shaped_of_ZipB (by kernel_rfl) (by kernel_rfl)) (by kernel_rfl) (by kernel_rfl) (by kernel_rfl)
   (by rw[MakeChecks.laidMetH_plain _ _ _ (by kernel_rfl)];exact laidMet_laidAll _ (by kernel_rfl) (by kernel_rfl))) ?_
 intro W base args ds gs before hval0 hW _ _ hL _
 have hval:∀ (j:Nat) t v,Tryz.f4.params[j]?=some t→args[j]?=some v→Value.okWide Tryz.prog W .any base t v:=hval0
 have hW':=hW
 obtain ⟨p,q,hA0,hV,rfl,hfz,hnd⟩:=hW
 have hA:DataW.TrodAll enc Tryz.prog W 0 (fun _=>true) true Tryz.f4.params.toList args.toList ds p:=hA0
 rw[Tryz.params4] at hA hval
 obtain ⟨v0,d0,rfl,rfl,h0⟩:=trodAll_one hA
 obtain ⟨rfl,rfl⟩:=trodVars_none hV
 have hlt:∀ x∈p,x.block<W.heap.size:=fun x hx=>hW'.lt x (by simpa using hx)
 have hlt0:∀ x∈p,x.block<W.heap.size:=fun x hx=>hlt x (by simp[hx])
 obtain ⟨B,hB,hB0,hmB⟩:=bytes_in h0 (okWide_slice Tryz.underlying33 (hval 0 33 v0 rfl rfl))
 obtain ⟨_,ba,_,_,bc,rfl,_,_⟩:=id hB
 have hL3:=hL
 rw[MakeChecks.laidMetH_plain _ _ _ (by kernel_rfl)] at hL3
 obtain ⟨A,hRd,hWd⟩:=rowN_of hL3
 refine (namesRead_any A ba bc B W hB hB0 hRd hWd).mono fun e W' ⟨he,hg⟩=>?_
 subst he
 have bel:Below W.heap.size W W':=⟨hg.os,hg.tape,hg.output,hg.size,fun k hk=>hg.block k hk (by simp)⟩
 exact ⟨_,rfl,[d0],[],_,[],p,[],hW',trodAll_mk1 (shut_bool Tryz.underlying4 _),
  trodAll_mk1 (Below.trod laidOut2 (by kernel_rfl) (of_decide_eq_true (by kernel_rfl)) h0 bel hlt0),rfl,bel.frame _,fun h=>by cases h⟩
theorem namesRead_holds:Rows.NamesReadSaid :=
 OpenClaim.holds_of_wide 4 Tryz.f4 rfl rfl rfl rfl rfl rfl rfl ⟨rfl,rfl,rfl,rfl,rfl⟩ rfl rfl rfl rfl rfl (by kernel_rfl) Tryz.func4 namesRead_closed
  (of_decide_eq_true (by kernel_rfl)) (by unfold Func.isWrapper;rw[if_neg (of_decide_eq_false (by kernel_rfl))];exact ⟨rfl,rfl⟩)
  (fun os started H enc _=>namesRead_lifted os started H enc)
theorem namesRead_card:Rows.NamesReadCardSaid :=
 Claim7.holds_tied_plain_at .later [] Rows.namesReadCard.laidKinds true Rows.namesReadCard.stood.harness true
  namesRead_holds (fun _ h=>by cases h) (by kernel_rfl) (fun _ h=>by cases h) namesRead_row_tie rfl ⟨rfl,rfl⟩ (by kernel_rfl) rfl
  (fun f fn hf hfn=>by
   obtain rfl:f=4:=Option.some.inj ((show Tryz.prog.funcNamed "bulla/bullalaw09.NamesRead"=some 4 by kernel_rfl).symm.trans hf) |>.symm
   obtain rfl:fn=Tryz.f4:=(Option.some.inj (Tryz.func4.symm.trans hfn)).symm
   exact ⟨by kernel_rfl,fun j t ht=>by
    rw[Tryz.params4] at ht
    rcases j with _|j
    ·simp at ht;subst ht;kernel_rfl
    ·simp at ht⟩)
  (by kernel_rfl)
#print axioms namesRead_card
end Go.Proofs.YtijkaknggdaajaaGreatDoor
