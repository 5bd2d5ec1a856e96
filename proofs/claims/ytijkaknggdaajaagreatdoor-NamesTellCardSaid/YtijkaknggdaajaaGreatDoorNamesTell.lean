/- In the Go program's model the law NamesTell of package bullalaw09 returns true for every subject,and leaves all memory that was there as it was: names.Right tells which subjects are right,names.Parts,Text and Bytes tell their parts,texts and bytes by the document's own answers and refuse all others with ErrName,and names.Of,Parse and Read tell the subject again (the law says nothing of a namespace or a name of more than 200 bytes).
 Conditions: the variables that the row lists (package api's 28 errors,names' words,and the library's errors and tables) hold what the program's text lays in them;the card ties them to that text. -/
import Derived.Test.YtijkaknggdaajaaGreatDoorZt05
import Derived.Test.YtijkaknggdaajaaGreatDoorZt25
import Derived.Test.YtijkaknggdaajaaGreatDoorZt49
import Derived.Test.YtijkaknggdaajaaGreatDoorZt50
import Derived.Test.YtijkaknggdaajaaGreatDoorCards
import Derived.Test.YtijkaknggdaajaaGreatDoorTie
import Derived.SevenTiedAt
set_option linter.unusedVariables false
set_option linter.unusedSimpArgs false
set_option maxRecDepth 100000
namespace Go.Proofs.YtijkaknggdaajaaGreatDoor
open Go.ChangeShapes Go.WideShapes Go.ChangeAt Go.RowKit
theorem namesTell_lifted (os:Os) (started:os.Started) (H:Type) (enc:TypeId×Value→H) :
  ReturnsInHanded {} Tryz.checked os 3 .any (fun w args=>(Rows.namesTellSpec.pre enc Tryz.prog Tryz.f3 [] false w args∧laidMetH Tryz.prog laidsNT w)∧sizedMet enc Tryz.prog Tryz.f3 (OpenSpec.ofChange Rows.namesTellSpec) false w args)
   (Rows.namesTellSpec.post enc Tryz.prog Tryz.f3 false true false false):=by
 refine returnsInHanded_of_change_and (C:=Tryz.checked) (X:=fun w _=>laidMetH Tryz.prog laidsNT w) (fun _ _ _ hh h=>h.of_heap hh) own2 started (by kernel_rfl) Tryz.func3
  (ChangeSpec.witness_shaped (enc:=enc) (C:=Tryz.checked) (os:=os) (X:=fun w _=>laidMetH Tryz.prog laidsNT w) false (World.laidAll Tryz.prog os laidsNT) #[.agg #[.int .i64 0,.string .empty,.string .empty]] 8 (World.laidAll_os _ _ _) (World.shaped_of_ZipB (by kernel_rfl) (by kernel_rfl)) (by kernel_rfl) (by kernel_rfl) (by kernel_rfl)
   (by rw[MakeChecks.laidMetH_plain _ _ _ (by kernel_rfl)];exact laidMet_laidAll _ (by kernel_rfl) (by kernel_rfl))) ?_
 intro W base args ds gs before hval0 hW _ _ hL _
 have hval:∀ (j:Nat) t v,Tryz.f3.params[j]?=some t→args[j]?=some v→Value.okWide Tryz.prog W .any base t v:=hval0
 have hW':=hW
 obtain ⟨p,q,hA0,hV,rfl,hfz,hnd⟩:=hW
 have hA:DataW.TrodAll enc Tryz.prog W 0 (fun _=>true) true Tryz.f3.params.toList args.toList ds p:=hA0
 rw[Tryz.params3] at hA hval
 obtain ⟨v0,d0,rfl,rfl,h0⟩:=trodAll_one hA
 obtain ⟨rfl,rfl⟩:=trodVars_none hV
 have hlt:∀ x∈p,x.block<W.heap.size:=fun x hx=>hW'.lt x (by simpa using hx)
 have hlt0:∀ x∈p,x.block<W.heap.size:=fun x hx=>hlt x (by simp[hx])
 obtain ⟨u0,rfl,hk1,hk2⟩:=subj_in (hval 0 23 v0 rfl rfl)
 have hL3:=hL
 rw[MakeChecks.laidMetH_plain _ _ _ (by kernel_rfl)] at hL3
 obtain ⟨A,hBo,hRd,hWd⟩:=rowT_of hL3
 refine (namesTell_any A u0 W ⟨hk1,hk2⟩ hBo hRd hWd).mono fun e W' ⟨he,hg⟩=>?_
 subst he
 have bel:Below W.heap.size W W':=⟨hg.os,hg.tape,hg.output,hg.size,fun k hk=>hg.block k hk (by simp)⟩
 exact ⟨_,rfl,[d0],[],_,[],p,[],hW',trodAll_mk1 (shut_bool Tryz.underlying4 _),
  trodAll_mk1 (Below.trod laidOut2 (by kernel_rfl) (of_decide_eq_true (by kernel_rfl)) h0 bel hlt0),rfl,bel.frame _,fun h=>by cases h⟩
theorem namesTell_holds:Rows.NamesTellSaid :=
 OpenClaim.holds_of_wide 3 Tryz.f3 rfl rfl rfl rfl rfl rfl rfl ⟨rfl,rfl,rfl,rfl,rfl⟩ rfl rfl rfl rfl rfl (by kernel_rfl) Tryz.func3 namesTell_closed
  (of_decide_eq_true (by kernel_rfl)) (by unfold Func.isWrapper;rw[if_neg (of_decide_eq_false (by kernel_rfl))];exact ⟨rfl,rfl⟩)
  (fun os started H enc _=>namesTell_lifted os started H enc)
theorem namesTell_card:Rows.NamesTellCardSaid :=
 Claim7.holds_tied_plain_at .later [] Rows.namesTellCard.laidKinds true Rows.namesTellCard.stood.harness true
  namesTell_holds (fun _ h=>by cases h) (by kernel_rfl) (fun _ h=>by cases h) namesTell_row_tie rfl ⟨rfl,rfl⟩ (by kernel_rfl) rfl
  (fun f fn hf hfn=>by
   obtain rfl:f=3:=Option.some.inj ((show Tryz.prog.funcNamed "bulla/bullalaw09.NamesTell"=some 3 by kernel_rfl).symm.trans hf) |>.symm
   obtain rfl:fn=Tryz.f3:=(Option.some.inj (Tryz.func3.symm.trans hfn)).symm
   exact ⟨by kernel_rfl,fun j t ht=>by
    rw[Tryz.params3] at ht
    rcases j with _|j
    ·simp at ht;subst ht;kernel_rfl
    ·simp at ht⟩)
  (by kernel_rfl)
#print axioms namesTell_card
end Go.Proofs.YtijkaknggdaajaaGreatDoor
