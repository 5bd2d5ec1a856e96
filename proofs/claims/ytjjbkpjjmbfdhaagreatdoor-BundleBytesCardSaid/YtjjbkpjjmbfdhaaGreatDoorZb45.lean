import Derived.Test.YtjjbkpjjmbfdhaaGreatDoorZb06
import Derived.Test.YtjjbkpjjmbfdhaaGreatDoorZb21
import Derived.Test.YtjjbkpjjmbfdhaaGreatDoorZb34
import Derived.Test.YtjjbkpjjmbfdhaaGreatDoorZb40
import Derived.Test.YtjjbkpjjmbfdhaaGreatDoorZb41
import Derived.Test.YtjjbkpjjmbfdhaaGreatDoorZb42
import Derived.Laws.Rows
import Derived.Laws.Tables
set_option linter.unusedVariables false
set_option linter.unusedSimpArgs false
set_option maxRecDepth 100000
set_option maxHeartbeats 8000000
namespace Go.Proofs.YtjjbkpjjmbfdhaaGreatDoor
open Lib (hid)
open Go.RowKit Bu
theorem prRow_an {A:Nat→Addr} {W0 w:World} {F:Nat→Prop} {b:Nat} {s:De.Rd} (h:PrR A W0 F b s w) (hE:AllErrs W0 A) (tag:Int) (most:Nat) (f:Nat) (caps:Array Value) (G:De.Rd→De.Rd×An) (J:Nat→De.Rd→Prop)
  (hen:∀ args w,(callFunc f args).run Tryz.prog w=.ok (.enter f args) w)
  (h0:J 0 (De.enter s tag).1) (hJ:∀ j s',J j s'→De.more s'=true→j<most→J (j+1) (G s').1) (hN:∀ j s',J j s'→j≤100000)
  (hcall:∀ j F' s' W,J j s'→De.more s'=true→PrR A W0 F' b s' W→Calls Tryz.prog f (#[.pointer (some ⟨b,0,none⟩)]++caps) W fun e w'=>e=.returned (.agg #[.int .i64 (G s').2.g,.string (G s').2.k,.int .i64 (G s').2.f,.int .i64 (G s').2.t])∧Upto F' W w'∧PrR A W0 (Ext F' W w') b (G s').1 w') :
  Calls Tryz.prog 39 #[.pointer (some ⟨b,0,none⟩),.int .i64 tag,.int .i64 most,.func (.func f) #[] caps] w fun e w'=>∃ (F':Nat→Prop) (v:Value),e=.returned v∧RowI A W0 w F F' b (rowEnd G s tag most).1 48 4 (rowEnd G s tag most).2.length (cellsA (rowEnd G s tag most).2) v w':=by
 have HX:=hid h
 have hfn:∀ W,(binOp .neq 77 (.func (.func f) #[] caps) .nilFunc).run Tryz.prog W=.ok (.bool true) W:=fun W=>rfl
 have HW:=hid h.own
 have HE:=hid hE
 have HJ:=hid hJ
 have HN:=hid hN
 have HCl:=hid hcall
 have HEn:=hid (prEnter_any h hE tag)
 have HErr:Hid (∀ W,W0.grownBy W none→W.cell? ⟨3,0,none⟩=some (errV A 3)):=hid (fun W hW=>by
  have e5:=errs_at (hE.grown hW) 3 (by decide)
  simp only[errVars,List.getD_cons_zero,List.getD_cons_succ,Nat.add_one_sub_one] at e5
  exact e5)
 have hbse:=h.base
 have HBs:=hid hbse
 cases hq:(De.enter s tag).2 with
 |false =>
  have hre:=rowEnd_not (G:=G) (most:=most) hq
  have HRe:=hid hre
  rw[hq] at HEn
  obtain ⟨s1,hs1⟩:∃ s1,s1=(De.enter s tag).1:=⟨_,rfl⟩
  rw[←hs1] at HEn HRe
  clear h hE hJ hN hcall h0 hq hre hs1 hbse
  go_enter Tryz.func39,Tryz.ntmps39
  go_wp2_with (go_at_call 35;refine HEn.out.mono ?_;rintro e w2 ⟨hu2,hp2,rfl⟩;have U2:=hid hu2;have P2:=hid hp2;clear hu2 hp2)
  go_ret
  rw[HRe.out]
  exact ⟨_,_,rfl,U2.out,P2.out,fun k hk=>hk,⟨rfl,.inl ⟨rfl,rfl⟩⟩,by simp[Value.ownBlock]⟩
 |true =>
  rw[hq] at HEn
  have H0:=hid h0
  obtain ⟨s1,hs1⟩:∃ s1,s1=(De.enter s tag).1:=⟨_,rfl⟩
  have HS1:=hid hs1
  rw[←hs1] at HEn H0
  clear h hE hJ hN hcall h0 hq hs1 hbse
  go_enter Tryz.func39,Tryz.ntmps39
  go_wp2_with (go_at_call 35;refine HEn.out.mono ?_;rintro e w2 ⟨hu2,hp2,rfl⟩;have R2:Hid (∃ F',RowI A W0 w F F' b s1 48 4 0 (cellsA []) (.slice none 0 0) w2):=hid ⟨_,hu2,hp2,fun k hk=>hk,⟨rfl,.inl ⟨rfl,rfl⟩⟩,by simp[Value.ownBlock]⟩;clear hu2 hp2)
  go_loopw [9] (fun r wr=>∃ (l:List An) (s':De.Rd) (F':Nat→Prop),RowI A W0 w F F' b s' 48 4 l.length (cellsA l) r wr∧J l.length s'∧l.length≤most∧rowG G (most-l.length) s' l=rowG G most s1 []) (fun r _=>200000-lenV r)
  case atStart =>
   obtain ⟨F',hF'⟩:=R2.out
   exact ⟨[],s1,F',hF',H0.out,Nat.zero_le _,rfl⟩
  case round =>
   obtain ⟨l,s',F',hR,hJl,hlm,hrow⟩:=hrel
   have R:=hid hR
   have HJl:=hid hJl
   have HRw:=hid hrow
   have hl1:=HN.out _ _ hJl
   have HMo:=hid (prMore_any hR.rd)
   obtain ⟨ra,rg,rc,rfl,hrc,-,-,-,hrop⟩:=own_formN hR.row
   by_cases hm:De.more s'=true
   ·rw[hm] at HMo
    by_cases hlt:l.length<most
    ·have HC:=hid (HCl.out _ F' s' wr hJl hm hR.rd)
     obtain ⟨s2,hs2⟩:∃ s2,s2=(G s').1:=⟨_,rfl⟩
     obtain ⟨v2,hv2⟩:∃ v2,v2=(G s').2:=⟨_,rfl⟩
     rw[←hs2,←hv2] at HC
     have HNx:Hid (J (l.length+1) s2∧rowG G (most-(l.length+1)) s2 (l++[v2])=rowG G most s1 []):=hid ⟨by rw[hs2];exact HJ.out _ _ hJl hm hlt,by
      rw[hs2,hv2,←hrow,show most-l.length=(most-(l.length+1))+1 by omega,rowG_next hm]⟩
     obtain ⟨n,hn⟩:∃ n,n=l.length:=⟨_,rfl⟩
     have hgeq:¬ (most:Int)≤(n:Int):=by omega
     have HNn:=hid hn
     rw[←hn] at hl1 R ⊢
     have hl2:=hid hl1
     have hlt2:=hid hlt
     clear hR hJl hlm hrow hm hs2 hv2 hrop hlt hn hl1
     go_wp2_with (first
      |(go_at_call 87;(with_reducible refine HMo.out.mono ?_);rintro e w4 ⟨rfl,rfl⟩)
      |((with_reducible refine HC.out.mono ?_);rintro e w5 ⟨rfl,hu5,hp5⟩;have R5:=hid (R.out.call (fun k hk=>(HW.out k hk).2) hu5 hp5);clear hu5 hp5)
      |(obtain ⟨w6,hw6⟩:∃ w6,w6=w5.alloc (.cells #[.int .i64 v2.g,.string v2.k,.int .i64 v2.f,.int .i64 v2.t] 48):=⟨_,rfl⟩;rw[←hw6];have g6:Hid (w5.grownBy w6 none):=hid (by rw[hw6];exact World.grownBy_alloc _ _ _);have b6:w6.heap[w5.heap.size]?=some (.cells #[.int .i64 v2.g,.string v2.k,.int .i64 v2.f,.int .i64 v2.t] 48 (0,0)):=(by rw[hw6];exact alloc_at _ _);refine wpList_appN2 (by rfl) (.tmp 27) (.tmp 31) 22 (by rfl) w.heap.size 48 (.agg #[.int .i64 0,.string ⟨#[]⟩,.int .i64 0,.int .i64 0]) 4 40 Tryz.underlying22 (by kernel_rfl) rfl (by decide) (by decide) _ n (cellsA l) (by rfl) (R5.out.still g6.out).row ⟨w5.heap.size,0,none⟩ 1 1 [.int .i64 v2.g,.string v2.k,.int .i64 v2.f,.int .i64 v2.t] (by rfl) (by rfl) (fun q u hu=>by rw[addr_addO,Nat.zero_add];exact cell_blk b6 q (by simpa using hu)) (by intro u hu;simp at hu;rcases hu with rfl|rfl|rfl|rfl <;> rfl) (by have:=hl2.out;omega) (R5.out.still g6.out).upto.size ?_;intro v7 w7 ho7 hg7 hb7;have R7:=hid (R5.out.more HBs.out g6.out ho7 hg7 hb7);clear hw6 b6 ho7 hg7 hb7))
     have hr7:=R7.out.row
     obtain ⟨ra7,rg7,rc7,rfl,hrc7,-⟩:=own_formN hr7
     clear hr7
     go_roundw
     case rel =>
      obtain ⟨FF,r7⟩:∃ FF,RowI A W0 w F FF b s2 48 4 (n+1) (cellsA l++[.int .i64 v2.g,.string v2.k,.int .i64 v2.f,.int .i64 v2.t]) (.slice ra7 (n+1) rc7) w7:=⟨_,R7.out⟩
      refine ⟨l++[v2],s2,FF,?_,?_,?_,?_⟩
      ·rw[List.length_append,List.length_singleton,←HNn.out,cellsA_app]
       exact r7
      ·rw[List.length_append,List.length_singleton];exact HNx.out.1
      ·rw[List.length_append,List.length_singleton];exact hlt2.out
      ·rw[List.length_append,List.length_singleton];exact HNx.out.2
     case measure =>
      have:=hl2.out
      simp only[lenV]
      omega
    ·have hlm2:l.length=most:=by omega
     have HF:=hid (prFailR_any hR.rd 3 (by decide))
     have he0:=more_e0 hm
     rw[if_pos he0] at HF
     have hcl:=HErr.out wr hR.rd.base
     have hgeq:(most:Int)≤(l.length:Int):=by omega
     have HRe:=hid (rowEnd_long (s:=s) (tag:=tag) (most:=most) (l:=l) hm (by rw[←HS1.out,←hrow,hlm2,Nat.sub_self]))
     obtain ⟨n,hn⟩:∃ n,n=l.length:=⟨_,rfl⟩
     rw[←hn] at hgeq ⊢
     clear hR hJl hlm hrow hm hlt hrop hlm2 he0
     go_wp2_with (first
      |(go_at_call 87;(with_reducible refine HMo.out.mono ?_);rintro e w4 ⟨rfl,rfl⟩)
      |(go_at_call 88;(with_reducible refine HF.out.mono ?_);rintro e w5 ⟨rfl,hu5,hp5⟩;have R5:=hid (R.out.call (fun k hk=>(HW.out k hk).2) hu5 hp5);clear hu5 hp5))
     go_ret
     rw[HRe.out]
     exact ⟨_,_,rfl,R5.out.upto,R5.out.rd,R5.out.sub,⟨rfl,.inl ⟨rfl,rfl⟩⟩,by simp[Value.ownBlock]⟩
   ·have hmf:De.more s'=false:=by cases hmm:De.more s' with
     |false=>rfl
     |true=>exact absurd hmm hm
    rw[hmf] at HMo
    have HLv:=hid (prLeave_any hR.rd HE.out)
    have HRe:=hid (rowEnd_stop (s:=s) (tag:=tag) (most:=most) (l:=l) hm (by rw[←HS1.out];exact hrow))
    obtain ⟨s2,hs2⟩:∃ s2,s2=De.leave s':=⟨_,rfl⟩
    rw[←hs2] at HLv HRe
    have HEr:Hid (∀ F' W,PrR A W0 F' b s2 W→Calls Tryz.prog 89 #[.pointer (some ⟨b,0,none⟩)] W fun e w'=>e=.returned (errOf A s2.e)∧w'=W):=hid (fun F' W h=>prErrR_any h)
    obtain ⟨n,hn⟩:∃ n,n=l.length:=⟨_,rfl⟩
    have HNn:=hid hn
    rw[←hn] at R ⊢
    clear hR hJl hlm hrow hm hrop hmf hs2 hn
    by_cases he:s2.e=0
    ·rw[errOf,if_pos he] at HEr
     have HHe:=hid he
     clear he
     go_wp2_with (first
      |(go_at_call 87;(with_reducible refine HMo.out.mono ?_);rintro e w4 ⟨rfl,rfl⟩)
      |(go_at_call 44;(with_reducible refine HLv.out.mono ?_);rintro e w5 ⟨rfl,hu5,hp5⟩;have P5:=hid hp5;have R5:=hid (R.out.call (fun k hk=>(HW.out k hk).2) hu5 hp5);clear hu5 hp5)
      |(go_at_call 89;(with_reducible refine (HEr.out _ _ P5.out).mono ?_);rintro e w6 ⟨rfl,rfl⟩))
     go_ret
     rw[HRe.out,if_neg (by rw[HHe.out];decide)]
     obtain ⟨FF,r5⟩:∃ FF,RowI A W0 w F FF b s2 48 4 n (cellsA l) (.slice ra n rc) w6:=⟨_,R5.out⟩
     refine ⟨FF,_,rfl,?_⟩
     show RowI A W0 w F FF b s2 _ 4 l.length (cellsA l) _ _
     rw[←HNn.out]
     exact r5
    ·rw[errOf,if_neg he] at HEr
     have HHe:=hid he
     clear he
     go_wp2_with (first
      |(go_at_call 87;(with_reducible refine HMo.out.mono ?_);rintro e w4 ⟨rfl,rfl⟩)
      |(go_at_call 44;(with_reducible refine HLv.out.mono ?_);rintro e w5 ⟨rfl,hu5,hp5⟩;have P5:=hid hp5;have R5:=hid (R.out.call (fun k hk=>(HW.out k hk).2) hu5 hp5);clear hu5 hp5)
      |(go_at_call 89;(with_reducible refine (HEr.out _ _ P5.out).mono ?_);rintro e w6 ⟨rfl,rfl⟩))
     go_ret
     rw[HRe.out,if_pos HHe.out]
     exact ⟨_,_,rfl,R5.out.upto,R5.out.rd,R5.out.sub,⟨rfl,.inl ⟨rfl,rfl⟩⟩,by simp[Value.ownBlock]⟩
theorem set4 {w:World} {b:Nat} {x y z u x' y' z' u':Value} {t:TypeId} (h:w.heap[b]?=some (.cells #[x,y,z,u] t (0,0))):((((w.setCell ⟨b,0,none⟩ x').setCell ⟨b,1,none⟩ y').setCell ⟨b,2,none⟩ z').setCell ⟨b,3,none⟩ u').heap[b]?=some (.cells #[x',y',z',u'] t (0,0)):=by
 have:=setCell_heap (i:=3) (setCell_heap (i:=2) (setCell_heap (i:=1) (setCell_heap (i:=0) h x') y') z') u'
 simpa using this
theorem nb_kOf {A:Nat→Addr} {v:Value} {l:List Nat} {w:World} (hB:Bytes w v l) (hl:l.length≤1099511620000) (hE:AllErrs w A) :
  Calls Tryz.prog 41 #[v] w fun e w'=>∃ er,e=.returned (.tuple #[.string (kOf l),er])∧w.grownBy w' none :=
 (number16_any A v l w hB hl hE).mono (fun e w' ⟨h1,h2⟩=>by
  unfold NbPost at h1
  unfold kOf
  by_cases h:l.length=16
  ·rw[if_pos h] at h1 ⊢;exact ⟨_,h1,h2⟩
  ·rw[if_neg h] at h1 ⊢;exact ⟨_,h1,h2⟩)
theorem LeftN.an {m:Nat} {s:De.Rd} (h:LeftN m s):LeftN (m+1) (gAn s).1:=by
 have h1:=h.enter 48
 rw[←ask_enter s 48 0 0] at h1
 exact ((((h1.said 3 0 1 1048576 (by decide) (by decide)).said 6 0 16 16 (by decide) (by decide)).said 9 0 0 0 (by decide) (by decide)).said 9 0 0 0 (by decide) (by decide)).leave
theorem oct_short {s:De.Rd} {n:Nat} (h:s.top.length≤1000) (tag:Int):(De.ask s 6 tag 16 16).2.b.length≤16:=by
 unfold De.ask
 by_cases he:s.e≠0
 ·rw[if_pos he];simp[De.none0]
 rw[if_neg he,if_neg (by decide),if_neg (by decide),if_neg (by decide)]
 generalize De.next s (De.tagOf 6)=p
 obtain ⟨s2,o⟩:=p
 cases o with
 |none=>simp[De.none0]
 |some x =>
  obtain ⟨x,y⟩:=x
  show (match De.said 6 16 16 x with | .error e=>_ | .ok v=>_:De.Rd×De.Val).2.b.length≤16
  unfold De.said
  rw[if_neg (by decide),if_neg (by decide),if_pos rfl]
  by_cases h1:(x.length:Int)<16
  ·rw[if_pos h1];simp[De.none0]
  ·rw[if_neg h1]
   by_cases h2:(16:Int)<(x.length:Int)
   ·rw[if_pos h2];simp[De.none0]
   ·rw[if_neg h2];show x.length≤16;omega
theorem bget1_any {A:Nat→Addr} {W0 w:World} {F:Nat→Prop} {b m:Nat} {s:De.Rd} (h:PrR A W0 F b s w) (hR:ReadsOf A W0) (hL:LeftN m s) :
  Calls Tryz.prog 40 #[.pointer (some ⟨b,0,none⟩)] w fun e w'=>e=.returned (.agg #[.int .i64 (gAn s).2.g,.string (gAn s).2.k,.int .i64 (gAn s).2.f,.int .i64 (gAn s).2.t])∧Upto F w w'∧PrR A W0 (Ext F w w') b (gAn s).1 w':=by
 have hI:(Tryz.prog.info? 48).map (·.size)=some 4:=an_info
 obtain ⟨w1,hw1⟩:∃ w1,w1=(w.alloc (.cells #[.int .i64 0,.string ⟨#[]⟩,.int .i64 0,.int .i64 0] 48)).alloc (.cells #[.int .i64 0,.string ⟨#[]⟩,.int .i64 0,.int .i64 0] 48):=⟨_,rfl⟩
 have hg1:w.grownBy w1 none:=by rw[hw1];exact grown_alloc (World.grownBy_alloc _ _ _) _
 have hs1:w1.heap.size=w.heap.size+2:=by rw[hw1,alloc_size,alloc_size]
 have hb2:w1.heap[w.heap.size]?=some (.cells #[.int .i64 0,.string ⟨#[]⟩,.int .i64 0,.int .i64 0] 48 (0,0)):=by rw[hw1];exact alloc2_old _ _ _
 have hb3:w1.heap[w.heap.size+1]?=some (.cells #[.int .i64 0,.string ⟨#[]⟩,.int .i64 0,.int .i64 0] 48 (0,0)):=by rw[hw1];exact alloc2_new _ _ _
 have h0s:=h.base.size
 have HW1:=hid hw1
 have HG1:=hid hg1
 have HB2:=hid hb2
 have HB3:=hid hb3
 have HX:=hid h
 have HS1:=hid hs1
 have HW:=hid (fun k (hk:F k)=>(Nat.lt_of_lt_of_le (h.own k hk).2 hg1.size:k<w1.heap.size))
 have HBo:Hid (∀ k,(k=w.heap.size∨k=w.heap.size+1)→k<w1.heap.size∧¬ F k):=hid (fun k hk=>⟨by omega,fun hf=>by have:=(h.own k hf).2;omega⟩)
 have HBz:Hid (∀ k,(k=w.heap.size∨k=w.heap.size+1)→W0.heap.size≤k):=hid (fun k hk=>by omega)
 have R1:Hid (RunB A W0 w1 F F (fun k=>k=w.heap.size∨k=w.heap.size+1) b s w1):=hid (RunB.start (h.still hg1))
 have hLe:=hL.enter 48
 rw[←ask_enter s 48 0 0] at hLe
 have HEn:Hid (Calls Tryz.prog 35 #[.pointer (some ⟨b,0,none⟩),.int .i64 48] w1 fun e w'=>Upto F w1 w'∧PrR A W0 (Ext F w1 w') b (De.ask s 1 48 0 0).1 w'∧∃ q,e=.returned (.bool q)):=hid ((prEnter_any (h.still hg1) hR.errs 48).mono (fun e w' ⟨h1,h2,h3⟩=>⟨h1,by rw[ask_enter];exact h2,_,h3⟩))
 have hL2:=hLe.said 3 0 1 1048576 (by decide) (by decide)
 have hL3:=hL2.said 6 0 16 16 (by decide) (by decide)
 have hL4:=hL3.said 9 0 0 0 (by decide) (by decide)
 have h16:=oct_short (n:=0) hL2.top 0
 have hgn:gAn s=(De.leave (De.ask (De.ask (De.ask (De.ask (De.ask s 1 48 0 0).1 3 0 1 1048576).1 6 0 16 16).1 9 0 0 0).1 9 0 0 0).1,⟨(De.ask (De.ask s 1 48 0 0).1 3 0 1 1048576).2.n,kOf (De.ask (De.ask (De.ask s 1 48 0 0).1 3 0 1 1048576).1 6 0 16 16).2.b,(De.ask (De.ask (De.ask (De.ask s 1 48 0 0).1 3 0 1 1048576).1 6 0 16 16).1 9 0 0 0).2.n,(De.ask (De.ask (De.ask (De.ask (De.ask s 1 48 0 0).1 3 0 1 1048576).1 6 0 16 16).1 9 0 0 0).1 9 0 0 0).2.n⟩):=rfl
 rw[hgn]
 obtain ⟨s1,hs1'⟩:∃ s1,s1=(De.ask s 1 48 0 0).1:=⟨_,rfl⟩
 rw[←hs1'] at HEn hL2 hL3 hL4 h16 ⊢
 have HIn:=hid (fun F' W (h:PrR A W0 F' b s1 W)=>rdInt h hR 0 1 1048576)
 obtain ⟨s2,hs2⟩:∃ s2,s2=(De.ask s1 3 0 1 1048576).1:=⟨_,rfl⟩
 obtain ⟨xg,hxg⟩:∃ xg,xg=(De.ask s1 3 0 1 1048576).2.n:=⟨_,rfl⟩
 rw[←hs2] at HIn hL2 hL3 hL4 h16 ⊢
 rw[←hxg] at HIn ⊢
 have HOc:=hid (fun F' W (h:PrR A W0 F' b s2 W)=>rdOct h hR 0 16 16)
 obtain ⟨s3,hs3⟩:∃ s3,s3=(De.ask s2 6 0 16 16).1:=⟨_,rfl⟩
 obtain ⟨kb',hkb⟩:∃ kb',kb'=(De.ask s2 6 0 16 16).2.b:=⟨_,rfl⟩
 rw[←hs3] at HOc hL3 hL4 ⊢
 rw[←hkb] at HOc h16 ⊢
 have HNb:=hid (fun v W (hW:W0.grownBy W none) (hB:Bytes W v kb')=>nb_kOf (A:=A) hB (by omega) (hR.errs.grown hW))
 have HM1:=hid (fun F' W (h:PrR A W0 F' b s3 W)=>rdMoment h hR hL3.first 0 0 0)
 obtain ⟨s4,hs4⟩:∃ s4,s4=(De.ask s3 9 0 0 0).1:=⟨_,rfl⟩
 obtain ⟨xf,hxf⟩:∃ xf,xf=(De.ask s3 9 0 0 0).2.n:=⟨_,rfl⟩
 rw[←hs4] at HM1 hL4 ⊢
 rw[←hxf] at HM1 ⊢
 have HM2:=hid (fun F' W (h:PrR A W0 F' b s4 W)=>rdMoment h hR hL4.first 0 0 0)
 obtain ⟨s5,hs5⟩:∃ s5,s5=(De.ask s4 9 0 0 0).1:=⟨_,rfl⟩
 obtain ⟨xt,hxt⟩:∃ xt,xt=(De.ask s4 9 0 0 0).2.n:=⟨_,rfl⟩
 rw[←hs5,←hxt] at HM2 ⊢
 have HLv:=hid (fun F' W (h:PrR A W0 F' b s5 W)=>prLeave_any h hR.errs)
 obtain ⟨s6,hs6⟩:∃ s6,s6=De.leave s5:=⟨_,rfl⟩
 rw[←hs6] at HLv ⊢
 obtain ⟨xk,hxk⟩:∃ xk,xk=kOf kb':=⟨_,rfl⟩
 rw[←hxk] at HNb ⊢
 show Calls _ _ _ _ fun e w'=>e=.returned (.agg #[.int .i64 xg,.string xk,.int .i64 xf,.int .i64 xt])∧Upto F w w'∧PrR A W0 (Ext F w w') b s6 w'
 obtain ⟨BB,hBB⟩:∃ BB:Nat→Prop,BB=(fun k=>k=w.heap.size∨k=w.heap.size+1):=⟨_,rfl⟩
 have M2:Hid (BB w.heap.size):=hid (by rw[hBB];exact .inl rfl)
 have M3:Hid (BB (w.heap.size+1)):=hid (by rw[hBB];exact .inr rfl)
 have HBw:Hid (∀ k,BB k→w.heap.size≤k):=hid (fun k hk=>by rw[hBB] at hk;rcases hk with hk|hk <;> omega)
 have HBo':Hid (∀ k,BB k→k<w1.heap.size∧¬ F k):=hid (by rw[hBB];exact HBo.out)
 have HBz':Hid (∀ k,BB k→W0.heap.size≤k):=hid (by rw[hBB];exact HBz.out)
 rw[←hBB] at R1
 clear h hR hL hw1 hg1 hb2 hb3 hs1 h0s hLe hL2 hL3 hL4 h16 hgn hs1' hs2 hxg hs3 hkb hs4 hxf hs5 hxt hs6 hxk HBo HBz hBB
 go_enter Tryz.func40,Tryz.ntmps40
 go_wp2_with (first
  |(go_at_call 35;rw[←HW1.out];(with_reducible refine HEn.out.mono ?_);rintro e w2 ⟨hu2,hp2,q2,rfl⟩;have R2:=hid (R1.out.call HW.out hu2 hp2);have C2:=hid (R1.out.kept HBo'.out hu2 M2.out HB2.out);have C3:=hid (R1.out.kept HBo'.out hu2 M3.out HB3.out);clear hu2 hp2)
  |(go_at_call 36;(with_reducible refine (HIn.out _ _ R2.out.rd).mono ?_);rintro e w3 ⟨rfl,hu3,hp3⟩;have R3:=hid (R2.out.call HW.out hu3 hp3);have D2:=hid (R2.out.kept HBo'.out hu3 M2.out C2.out);have D3:=hid (R2.out.kept HBo'.out hu3 M3.out C3.out);have y0:=free_blk D3.out 0;have z0:=cell_blk D3.out 0 rfl;clear hu3 hp3)
  |(go_at_call 42;have R3b:=hid (R3.out.set HBo'.out HBz'.out M3.out (i:=0) (v:=.int .i64 xg));(with_reducible refine (HOc.out _ _ R3b.out.rd).mono ?_);rintro e w4 ⟨v4,rfl,⟨a4,c4,rfl⟩,hb4,hw4,hu4,hp4⟩;have R4:=hid (R3b.out.call HW.out hu4 hp4);have HB4:=hid hb4;have E2:=hid (R3b.out.kept HBo'.out hu4 M2.out ((Below.heap_setCell _ _ _ _ (Nat.ne_of_lt (Nat.lt_succ_self _))).trans D2.out));have E3:=hid (R3b.out.kept HBo'.out hu4 M3.out (setCell_heap D3.out _));clear hb4 hw4 hu4 hp4)
  |(go_at_call 41;(with_reducible refine (HNb.out _ _ R4.out.rd.base HB4.out).mono ?_);rintro e w5 ⟨er5,rfl,hg5⟩;have R5:=hid (R4.out.still hg5);have F2:=hid (hold_b3 E2.out hg5);have F3:=hid (hold_b3 E3.out hg5);have y1:=free_blk F3.out 1;have z1:=cell_blk F3.out 1 rfl;clear hg5)
  |(go_at_call 43;have R5b:=hid (R5.out.set HBo'.out HBz'.out M3.out (i:=1) (v:=.string xk));(with_reducible refine (HM1.out _ _ R5b.out.rd).mono ?_);rintro e w6 ⟨rfl,hu6,hp6⟩;have R6:=hid (R5b.out.call HW.out hu6 hp6);have G2:=hid (R5b.out.kept HBo'.out hu6 M2.out ((Below.heap_setCell _ _ _ _ (Nat.ne_of_lt (Nat.lt_succ_self _))).trans F2.out));have G3:=hid (R5b.out.kept HBo'.out hu6 M3.out (setCell_heap F3.out _));clear hu6 hp6)
  |(go_at_call 43;(with_reducible refine (HM2.out _ _ R6.out.rd).mono ?_);rintro e w7 ⟨rfl,hu7,hp7⟩;have R7:=hid (R6.out.call HW.out hu7 hp7);have I2:=hid (R6.out.kept HBo'.out hu7 M2.out G2.out);have I3:=hid (R6.out.kept HBo'.out hu7 M3.out G3.out);have y2:=free_blk I3.out 2;have y3:=free_blk I3.out 3;have z2:=cell_blk I3.out 2 rfl;have z3:=cell_blk I3.out 3 rfl;clear hu7 hp7)
  |(go_at_call 44;have R7b:=hid ((R7.out.set HBo'.out HBz'.out M3.out (i:=2) (v:=.int .i64 xf)).set HBo'.out HBz'.out M3.out (i:=3) (v:=.int .i64 xt));(with_reducible refine (HLv.out _ _ R7b.out.rd).mono ?_);rintro e w8 ⟨rfl,hu8,hp8⟩;have R8:=hid (R7b.out.call HW.out hu8 hp8);have J2:=hid (R7b.out.kept HBo'.out hu8 M2.out ((Below.heap_setCell _ _ _ _ (Nat.ne_of_lt (Nat.lt_succ_self _))).trans ((Below.heap_setCell _ _ _ _ (Nat.ne_of_lt (Nat.lt_succ_self _))).trans I2.out)));have J3:Hid (w8.heap[w.heap.size+1]?=some (.cells #[.int .i64 xg,.string xk,.int .i64 xf,.int .i64 xt] 48 (0,0))):=hid (R7b.out.kept HBo'.out hu8 M3.out (setCell_heap (setCell_heap I3.out _) _));clear hu8 hp8)
  |(refine wpList_load_row (by rfl) 48 (.tmp 3) (by rfl) (w.heap.size+1) (by rfl) 48 #[.int .i64 xg,.string xk,.int .i64 xf,.int .i64 xt] (0,0) _ J3.out Tryz.underlying48 rfl hI ?_;have u0:=free_blk J2.out 0;have u1:=free_blk J2.out 1;have u2:=free_blk J2.out 2;have u3:=free_blk J2.out 3;have v0:=cell_blk J2.out 0 rfl;have v1:=cell_blk J2.out 1 rfl;have v2:=cell_blk J2.out 2 rfl;have v3:=cell_blk J2.out 3 rfl))
 refine bodyPost_ret (v:=.agg #[.int .i64 xg,.string xk,.int .i64 xf,.int .i64 xt]) ?_ rfl ⟨rfl,RunB.done HX.out.own HX.out.base HG1.out HBw.out (fun k hk=>(HBo'.out k hk).1) ((((R8.out.set HBo'.out HBz'.out M2.out).set HBo'.out HBz'.out M2.out).set HBo'.out HBz'.out M2.out).set HBo'.out HBz'.out M2.out)⟩
 exact results_cell_row Tryz.results40 _ _ w.heap.size _ _ (0,0) _ rfl (set4 J2.out) Tryz.underlying48 rfl hI
end Go.Proofs.YtjjbkpjjmbfdhaaGreatDoor
