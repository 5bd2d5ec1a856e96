import Derived.Test.YtijkaknggdaajaaGreatDoorZr39
import Derived.Test.YtijkaknggdaajaaGreatDoorZr47
set_option linter.unusedVariables false
set_option linter.unusedSimpArgs false
set_option maxRecDepth 100000
set_option maxHeartbeats 4000000
namespace Go.Proofs.YtijkaknggdaajaaGreatDoor
open Lib (hid)
open Go.RowKit
theorem Prts.nil (w:World):Prts w (.slice none 0 0) []:=⟨none,0,0,0,rfl,fun h=>absurd h (Nat.lt_irrefl _),fun j hj=>absurd hj (Nat.not_lt_zero _)⟩
theorem prRow_part {A:Nat→Addr} {W0 w:World} {F:Nat→Prop} {b:Nat} {s:De.Rd} (h:PrR A W0 F b s w) (hE:AllErrs W0 A) (tag:Int) (most:Nat) (f:Nat) (caps:Array Value) (G:De.Rd→De.Rd×Na.Pr) (J:Nat→De.Rd→Prop)
  (hen:∀ args w,(callFunc f args).run Tryz.prog w=.ok (.enter f args) w)
  (h0:J 0 (De.enter s tag).1) (hJ:∀ j s',J j s'→De.more s'=true→j<most→J (j+1) (G s').1) (hN:∀ j s',J j s'→j≤100000)
  (hcall:∀ j F' s' W,J j s'→De.more s'=true→PrR A W0 F' b s' W→Calls Tryz.prog f (#[.pointer (some ⟨b,0,none⟩)]++caps) W fun e w'=>e=.returned (.agg #[.string (G s').2.1,.string (G s').2.2])∧Upto F' W w'∧PrR A W0 (Ext F' W w') b (G s').1 w') :
  Calls Tryz.prog 78 #[.pointer (some ⟨b,0,none⟩),.int .i64 tag,.int .i64 most,.func (.func f) #[] caps] w fun e w'=>∃ a c,e=.returned (.slice a (rowEnd G s tag most).2.length c)∧Upto F w w'∧PrR A W0 (Ext F w w') b (rowEnd G s tag most).1 w'∧Sup (fun k=>w.heap.size≤k∧k<w'.heap.size) w' (fun W=>Prts W (.slice a (rowEnd G s tag most).2.length c) (rowEnd G s tag most).2):=by
 have HX:=hid h
 have hfn:∀ W,(binOp .neq 136 (.func (.func f) #[] caps) .nilFunc).run Tryz.prog W=.ok (.bool true) W:=fun W=>rfl
 have HW:=hid h.own
 have HE:=hid hE
 have HJ:=hid hJ
 have HN:=hid hN
 have HCl:=hid hcall
 have HEn:=hid (prEnter_any h hE tag)
 have HErr:Hid (∀ W,W0.grownBy W none→W.cell? ⟨4,0,none⟩=some (errV A 3)):=hid (fun W hW=>by
  have e5:=errs_at (hE.grown hW) 3 (by decide)
  simp only[errVars,List.getD_cons_zero,List.getD_cons_succ,Nat.add_one_sub_one] at e5
  exact e5)
 have hbse:=h.base
 have HBs:=hid hbse
 cases hq:(De.enter s tag).2 with
 |false =>
  have hre:=rowEnd_not (G:=G) (most:=most) hq
  have HRe:=hid hre
  rw[hq] at HEn
  obtain ⟨s1,hs1⟩:∃ s1,s1=(De.enter s tag).1:=⟨_,rfl⟩
  rw[←hs1] at HEn HRe
  clear h hE hJ hN hcall h0 hq hre hs1 hbse
  go_enter Tryz.func78,Tryz.ntmps78
  go_wp2_with (go_at_call 34;refine HEn.out.mono ?_;rintro e w2 ⟨hu2,hp2,rfl⟩;have U2:=hid hu2;have P2:=hid hp2;clear hu2 hp2)
  go_ret
  rw[HRe.out]
  exact ⟨none,0,rfl,U2.out,P2.out,fun k hk=>hk.2,fun W _=>Prts.nil W⟩
 |true =>
  rw[hq] at HEn
  have H0:=hid h0
  obtain ⟨s1,hs1⟩:∃ s1,s1=(De.enter s tag).1:=⟨_,rfl⟩
  have HS1:=hid hs1
  rw[←hs1] at HEn H0
  clear h hE hJ hN hcall h0 hq hs1 hbse
  go_enter Tryz.func78,Tryz.ntmps78
  go_wp2_with (go_at_call 34;refine HEn.out.mono ?_;rintro e w2 ⟨hu2,hp2,rfl⟩;have R2:Hid (∃ F',RowI A W0 w F F' b s1 88 2 0 (cellsP []) (.slice none 0 0) w2):=hid ⟨_,hu2,hp2,fun k hk=>hk,⟨rfl,.inl ⟨rfl,rfl⟩⟩,by simp[Value.ownBlock]⟩;clear hu2 hp2)
  go_loopw [9] (fun r wr=>∃ (l:List Na.Pr) (s':De.Rd) (F':Nat→Prop),RowI A W0 w F F' b s' 88 2 l.length (cellsP l) r wr∧J l.length s'∧l.length≤most∧rowG G (most-l.length) s' l=rowG G most s1 []) (fun r _=>200000-lenV r)
  case atStart =>
   obtain ⟨F',hF'⟩:=R2.out
   exact ⟨[],s1,F',hF',H0.out,Nat.zero_le _,rfl⟩
  case round =>
   obtain ⟨l,s',F',hR,hJl,hlm,hrow⟩:=hrel
   have R:=hid hR
   have HJl:=hid hJl
   have HRw:=hid hrow
   have hl1:=HN.out _ _ hJl
   have HMo:=hid (prMore_any hR.rd)
   obtain ⟨ra,rg,rc,rfl,hrc,-,-,-,hrop⟩:=own_formN hR.row
   by_cases hm:De.more s'=true
   ·rw[hm] at HMo
    by_cases hlt:l.length<most
    ·have HC:=hid (HCl.out _ F' s' wr hJl hm hR.rd)
     obtain ⟨s2,hs2⟩:∃ s2,s2=(G s').1:=⟨_,rfl⟩
     obtain ⟨v2,hv2⟩:∃ v2,v2=(G s').2:=⟨_,rfl⟩
     rw[←hs2,←hv2] at HC
     have HNx:Hid (J (l.length+1) s2∧rowG G (most-(l.length+1)) s2 (l++[v2])=rowG G most s1 []):=hid ⟨by rw[hs2];exact HJ.out _ _ hJl hm hlt,by
      rw[hs2,hv2,←hrow,show most-l.length=(most-(l.length+1))+1 by omega,rowG_next hm]⟩
     obtain ⟨n,hn⟩:∃ n,n=l.length:=⟨_,rfl⟩
     have hgeq:¬ (most:Int)≤(n:Int):=by omega
     have HNn:=hid hn
     rw[←hn] at hl1 R ⊢
     have hl2:=hid hl1
     have hlt2:=hid hlt
     clear hR hJl hlm hrow hm hs2 hv2 hrop hlt hn hl1
     go_wp2_with (first
      |(go_at_call 120;(with_reducible refine HMo.out.mono ?_);rintro e w4 ⟨rfl,rfl⟩)
      |((with_reducible refine HC.out.mono ?_);rintro e w5 ⟨rfl,hu5,hp5⟩;have R5:=hid (R.out.call (fun k hk=>(HW.out k hk).2) hu5 hp5);clear hu5 hp5)
      |(obtain ⟨w6,hw6⟩:∃ w6,w6=w5.alloc (.cells #[.string v2.1,.string v2.2] 88):=⟨_,rfl⟩;rw[←hw6];have g6:Hid (w5.grownBy w6 none):=hid (by rw[hw6];exact World.grownBy_alloc _ _ _);have b6:w6.heap[w5.heap.size]?=some (.cells #[.string v2.1,.string v2.2] 88 (0,0)):=(by rw[hw6];exact alloc_at _ _);refine wpList_appN2 (by rfl) (.tmp 27) (.tmp 31) 26 (by rfl) w.heap.size 88 (.agg #[.string ⟨#[]⟩,.string ⟨#[]⟩]) 2 32 Tryz.underlying26 (by kernel_rfl) rfl (by decide) (by decide) _ n (cellsP l) (by rfl) (R5.out.still g6.out).row ⟨w5.heap.size,0,none⟩ 1 1 [.string v2.1,.string v2.2] (by rfl) (by rfl) (fun q u hu=>by rw[addr_addO,Nat.zero_add];exact cell_blk b6 q (by simpa using hu)) (by intro u hu;simp at hu;rcases hu with rfl|rfl <;> rfl) (by have:=hl2.out;omega) (R5.out.still g6.out).upto.size ?_;intro v7 w7 ho7 hg7 hb7;have R7:=hid (R5.out.more HBs.out g6.out ho7 hg7 hb7);clear hw6 b6 ho7 hg7 hb7))
     have hr7:=R7.out.row
     obtain ⟨ra7,rg7,rc7,rfl,hrc7,-⟩:=own_formN hr7
     clear hr7
     go_roundw
     case rel =>
      obtain ⟨FF,r7⟩:∃ FF,RowI A W0 w F FF b s2 88 2 (n+1) (cellsP l++[.string v2.1,.string v2.2]) (.slice ra7 (n+1) rc7) w7:=⟨_,R7.out⟩
      refine ⟨l++[v2],s2,FF,?_,?_,?_,?_⟩
      ·rw[List.length_append,List.length_singleton,←HNn.out,cellsP_append]
       exact r7
      ·rw[List.length_append,List.length_singleton];exact HNx.out.1
      ·rw[List.length_append,List.length_singleton];exact hlt2.out
      ·rw[List.length_append,List.length_singleton];exact HNx.out.2
     case measure =>
      have:=hl2.out
      simp only[lenV]
      omega
    ·have hlm2:l.length=most:=by omega
     have HF:=hid (prFailR_any hR.rd 3 (by decide))
     have he0:=more_e0 hm
     rw[if_pos he0] at HF
     have hcl:=HErr.out wr hR.rd.base
     have hgeq:(most:Int)≤(l.length:Int):=by omega
     have HRe:=hid (rowEnd_long (s:=s) (tag:=tag) (most:=most) (l:=l) hm (by rw[←HS1.out,←hrow,hlm2,Nat.sub_self]))
     obtain ⟨n,hn⟩:∃ n,n=l.length:=⟨_,rfl⟩
     rw[←hn] at hgeq ⊢
     clear hR hJl hlm hrow hm hlt hrop hlm2 he0
     go_wp2_with (first
      |(go_at_call 120;(with_reducible refine HMo.out.mono ?_);rintro e w4 ⟨rfl,rfl⟩)
      |(go_at_call 82;(with_reducible refine HF.out.mono ?_);rintro e w5 ⟨rfl,hu5,hp5⟩;have R5:=hid (R.out.call (fun k hk=>(HW.out k hk).2) hu5 hp5);clear hu5 hp5))
     go_ret
     rw[HRe.out]
     obtain ⟨q1,q2⟩:=R5.out.done HW.out HBs.out
     exact ⟨none,0,rfl,q1,q2,fun k hk=>hk.2,fun W _=>Prts.nil W⟩
   ·have hmf:De.more s'=false:=by cases hmm:De.more s' with
     |false=>rfl
     |true=>exact absurd hmm hm
    rw[hmf] at HMo
    have HLv:=hid (prLeave_any hR.rd HE.out)
    have HRe:=hid (rowEnd_stop (s:=s) (tag:=tag) (most:=most) (l:=l) hm (by rw[←HS1.out];exact hrow))
    obtain ⟨s2,hs2⟩:∃ s2,s2=De.leave s':=⟨_,rfl⟩
    rw[←hs2] at HLv HRe
    have HEr:Hid (∀ F' W,PrR A W0 F' b s2 W→Calls Tryz.prog 39 #[.pointer (some ⟨b,0,none⟩)] W fun e w'=>e=.returned (errOf A s2.e)∧w'=W):=hid (fun F' W h=>prErrR_any h)
    obtain ⟨n,hn⟩:∃ n,n=l.length:=⟨_,rfl⟩
    have HNn:=hid hn
    rw[←hn] at R ⊢
    clear hR hJl hlm hrow hm hrop hmf hs2 hn
    by_cases he:s2.e=0
    ·rw[errOf,if_pos he] at HEr
     have HHe:=hid he
     clear he
     go_wp2_with (first
      |(go_at_call 120;(with_reducible refine HMo.out.mono ?_);rintro e w4 ⟨rfl,rfl⟩)
      |(go_at_call 40;(with_reducible refine HLv.out.mono ?_);rintro e w5 ⟨rfl,hu5,hp5⟩;have P5:=hid hp5;have R5:=hid (R.out.call (fun k hk=>(HW.out k hk).2) hu5 hp5);clear hu5 hp5)
      |(go_at_call 39;(with_reducible refine (HEr.out _ _ P5.out).mono ?_);rintro e w6 ⟨rfl,rfl⟩))
     go_ret
     rw[HRe.out,if_neg (by rw[HHe.out];decide)]
     obtain ⟨q1,q2⟩:=R5.out.done HW.out HBs.out
     refine ⟨ra,rc,by show Ending.returned (.slice ra n rc)=.returned (.slice ra l.length rc);rw[←HNn.out],q1,q2,?_⟩
     have hrw:=R5.out.row
     show Sup _ _ (fun W=>Prts W (.slice ra l.length rc) l)
     rw[←HNn.out]
     exact (own_sup hrw (F:=fun k=>w.heap.size≤k∧k<w6.heap.size) (fun k hk=>hk.2) (fun k hk=>hrw.lt k hk)).map (fun W hW=>Prts.own hW HNn.out)
    ·rw[errOf,if_neg he] at HEr
     have HHe:=hid he
     clear he
     go_wp2_with (first
      |(go_at_call 120;(with_reducible refine HMo.out.mono ?_);rintro e w4 ⟨rfl,rfl⟩)
      |(go_at_call 40;(with_reducible refine HLv.out.mono ?_);rintro e w5 ⟨rfl,hu5,hp5⟩;have P5:=hid hp5;have R5:=hid (R.out.call (fun k hk=>(HW.out k hk).2) hu5 hp5);clear hu5 hp5)
      |(go_at_call 39;(with_reducible refine (HEr.out _ _ P5.out).mono ?_);rintro e w6 ⟨rfl,rfl⟩))
     go_ret
     rw[HRe.out,if_pos HHe.out]
     obtain ⟨q1,q2⟩:=R5.out.done HW.out HBs.out
     exact ⟨none,0,rfl,q1,q2,fun k hk=>hk.2,fun W _=>Prts.nil W⟩
end Go.Proofs.YtijkaknggdaajaaGreatDoor
