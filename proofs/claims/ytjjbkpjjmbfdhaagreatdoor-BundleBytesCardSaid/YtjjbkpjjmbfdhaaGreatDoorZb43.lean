import Derived.Test.YtjjbkpjjmbfdhaaGreatDoorZb14
import Derived.Test.YtjjbkpjjmbfdhaaGreatDoorZb28
import Derived.Test.YtjjbkpjjmbfdhaaGreatDoorZb32
import Derived.Test.YtjjbkpjjmbfdhaaGreatDoorZb35
import Derived.Test.YtjjbkpjjmbfdhaaGreatDoorZb40
set_option linter.unusedVariables false
set_option linter.unusedSimpArgs false
set_option maxRecDepth 100000
set_option maxHeartbeats 2000000
namespace Go.Proofs.YtjjbkpjjmbfdhaaGreatDoor
open Lib (hid)
open Go.RowKit
def bodyL (t:Int) (L:List (List Nat)):List Nat:=(if t=49 then Pt.sort L else L).flatten
theorem elBody_any (t:Int) (a:Option Addr) (n c:Nat) (ys:List Value) (L:List (List Nat)) (w:World) (h20:n≤1000) (h100:∀ x∈L,x.length≤70000) (hV:Vals w (.slice a n c) ys) (hE:Each w ys L) (h0:Whole0 (.slice a n c)) :
  Calls Tryz.prog 69 #[.agg #[.int .i64 t,.slice a n c]] w fun e w'=>∃ u,e=.returned u∧w.grownBy w' none∧Bytes w' u (bodyL t L)∧Whole0 u:=by
 have hga:=World.grownBy_alloc w (.cells #[.int .i64 t,.slice a n c] 97) none
 by_cases h49:t=49
 ·have HS:=hid (set_wide a n c ys L _ h20 h100 (hV.grown hga) (hE.grown hga) h0)
  have HB:Hid (bodyL t L=(Pt.sort L).flatten):=hid (by unfold bodyL;rw[if_pos h49])
  have HGA:=hid hga
  subst h49
  clear hV hE h0 h100 hga
  go_enter Tryz.func69,Tryz.ntmps69
  go_wp2_with (go_at_call 111;refine HS.out.mono ?_;rintro e w2 ⟨u,rfl,hg2,hb2,h02⟩;have G2:=hid hg2;have B2:=hid hb2;have H2:=hid h02;clear hg2 hb2 h02)
  go_ret
  exact ⟨_,rfl,grown_trans HGA.out G2.out,by rw[HB.out];exact B2.out,H2.out⟩
 ·have HS:=hid (concat_any a n c ys L _ (hV.grown hga) (hE.grown hga) h20 h100)
  have HB:Hid (bodyL t L=L.flatten):=hid (by unfold bodyL;rw[if_neg h49])
  have HGA:=hid hga
  have z:(t==49)=false:=beq_eq_false_iff_ne.2 h49
  clear hV hE h0 h100 hga h49
  go_enter Tryz.func69,Tryz.ntmps69
  go_wp2_with (go_at_call 112;refine HS.out.mono ?_;rintro e w2 ⟨u,rfl,hg2,hb2,h02⟩;have G2:=hid hg2;have B2:=hid hb2;have H2:=hid h02;clear hg2 hb2 h02)
  go_ret
  exact ⟨_,rfl,grown_trans HGA.out G2.out,by rw[HB.out];exact B2.out,H2.out⟩
def PDnPost (A:Nat→Addr) (w w':World) (r:Except Nat (List Nat)) (e:Ending):Prop:=w.grownBy w' none∧match r with
 |.ok l=>∃ a c,e=.returned (.tuple #[.slice a l.length c,.nilIface])∧Bytes w' (.slice a l.length c) l∧Whole0 (.slice a l.length c)
 |.error k=>e=.returned (.tuple #[.slice none 0 0,errV A k])
theorem prDone_any {A:Nat→Addr} {W0 w:World} {F:Nat→Prop} {b:Nat} {s:De.St} (h:PrW A W0 F b s w) (hA:AllErrs W0 A) (hl:Lim 1000 s) :
  Calls Tryz.prog 27 #[.pointer (some ⟨b,0,none⟩)] w fun e w'=>PDnPost A w w' (De.done s) e:=by
 obtain ⟨ov,dv,hc,hbd⟩:=h.body
 have c2:=cell_blk hc 2 rfl
 have c0:=cell_blk hc 0 rfl
 have c1:=cell_blk hc 1 rfl
 have hAw:=hA.grown h.base
 have e24:w.cell? ⟨23,0,none⟩=some (errV A 24):=errs_at hAw 24 (by decide)
 have e3:w.cell? ⟨3,0,none⟩=some (errV A 3):=errs_at hAw 3 (by decide)
 obtain ⟨R,hR⟩:∃ R,R=De.done s:=⟨_,rfl⟩
 by_cases he:s.e=0
 ·rw[errOf,if_pos he] at c2
  obtain ⟨n,pv,hPW⟩:=hbd he
  obtain ⟨xs,hx1,_⟩:=hPW.opens
  obtain ⟨oa,oc,rfl⟩:∃ oa oc,ov=.slice oa n oc:=by
   obtain ⟨oa,og,oc,h1,_⟩:=own_formN hx1
   exact ⟨oa,oc,h1⟩
  have hD:=hPW.dones
  obtain ⟨da,dc,rfl⟩:∃ da dc,dv=.slice da s.dn.flatten.length dc:=by
   obtain ⟨da,dg,dc,h1,_⟩:=own_formN hD
   exact ⟨da,dc,h1⟩
  have hln:=hPW.len
  unfold De.done
  rw[if_neg (fun h=>h he)]
  by_cases hn:n=0
  ·have hop:s.op=[]:=List.length_eq_zero_iff.1 (by omega)
   subst hn
   rw[if_neg (fun h=>h hop)]
   have hlv:s.dn.length≤1000:=by have:=hl.len 0;rwa [show levOf s 0=s.dn from rfl] at this
   have hfl:s.dn.flatten.length≤70000*1000:=by
    have h5:=cat_len' s.dn (fun z hz=>hl.big 0 z hz)
    omega
   have hB:=Bytes.own hD hPW.dlt
   have hW:=Whole0.own hD
   by_cases hbig:65536<s.dn.flatten.length
   ·rw[if_pos hbig]
    obtain ⟨m,hm⟩:∃ m,m=s.dn.flatten.length:=⟨_,rfl⟩
    rw[←hm] at c1 hbig
    have z:decide ((65536:Int)<(m:Int))=true:=decide_eq_true (by omega)
    clear h hbd hPW hx1 hD hc he hl hA hAw hB hW hlv hfl hop e24 hln hm hbig hR
    unfold PDnPost
    go_enter Tryz.func27,Tryz.ntmps27
    go_wp2
    go_quiet (fail)
    go_wp2
    go_ret2
    exact ⟨grown_drewN (grown_refl _ _) _,rfl⟩
   ·rw[if_neg hbig]
    have HCl:=hid (clone_any _ s.dn.flatten w hB hW (by omega))
    obtain ⟨D,hD2⟩:∃ D,D=s.dn.flatten:=⟨_,rfl⟩
    rw[←hD2] at HCl c1 hbig hB ⊢
    obtain ⟨m,hm⟩:∃ m,m=D.length:=⟨_,rfl⟩
    rw[←hm] at c1 hbig HCl
    have HM:=hid hm
    have z:decide ((65536:Int)<(m:Int))=false:=decide_eq_false (by omega)
    have HRR:Hid (∀ u w',FrW w w' u D→(∃ a c,u=.slice a m c)→PDnPost A w w' (.ok D) (.returned (.tuple #[u,.nilIface]))):=hid (fun u w' hf ⟨a,c,hu⟩=>by
     subst hu
     rw[hm] at hf ⊢
     exact ⟨hf.grown,a,c,rfl,Bytes.own hf.own hB.lt,Whole0.own hf.own⟩)
    clear h hbd hPW hx1 hD hc he hl hA hAw hB hW hlv hfl hop e24 hln hm hbig hR e3 hD2
    go_enter Tryz.func27,Tryz.ntmps27
    go_wp2_with (go_at_call 70;refine HCl.out.mono ?_;rintro e w3 ⟨u,rfl,hf3,hu3⟩;have F3:=hid (HRR.out _ _ hf3 hu3);clear hf3 hu3)
    go_ret2
    exact F3.out
  ·have hop:s.op≠[]:=fun e=>hn (by rw[hln,e];rfl)
   rw[if_pos hop]
   have z:0<n:=by omega
   clear h hbd hPW hx1 hD hc he hl hA hAw hop e3 hln hn hR c1
   unfold PDnPost
   go_enter Tryz.func27,Tryz.ntmps27
   go_wp2
   go_quiet (fail)
   go_wp2
   go_ret2
   exact ⟨grown_drewN (grown_refl _ _) _,rfl⟩
 ·rw[errOf,if_neg he] at c2
  have HR:Hid (De.done s=.error s.e):=hid (by unfold De.done;rw[if_pos he])
  rw[HR.out]
  obtain ⟨k,hk⟩:∃ k,k=s.e:=⟨_,rfl⟩
  rw[←hk] at c2 ⊢
  clear h hbd he hA hAw hl hR HR e24 e3 hk hc
  unfold PDnPost
  go_enter Tryz.func27,Tryz.ntmps27
  go_wp2
  go_quiet (fail)
  go_wp2
  go_ret2
  exact ⟨grown_drewN (grown_refl _ _) _,rfl⟩
theorem prWrite_el {A:Nat→Addr} {W0 w:World} {F:Nat→Prop} {b:Nat} {s:De.St} (h:PrW A W0 F b s w) (hE:AllErrs W0 A) (hl:Lim 1000 s) (t:Nat) (ht:Tl.known (t:Int)=true) (xt:Int) (xa:Option Addr) (xn xc:Nat) (f:Nat) (caps:Array Value) (r:Except Nat (List Nat)) (hr:BodyOk r)
  (hen:∀ args w,(callFunc f args).run Tryz.prog w=.ok (.enter f args) w) (hB:∀ W,w.grownBy W none→Calls Tryz.prog f (#[.agg #[.int .i64 xt,.slice xa xn xc]]++caps) W fun e w'=>BodyPost A W w' r e) :
  Calls Tryz.prog 67 #[.pointer (some ⟨b,0,none⟩),.int .i64 (t:Int),.agg #[.int .i64 xt,.slice xa xn xc],.func (.func f) #[] caps] w fun e w'=>PrPost A W0 F b w w' (if s.e=0 then putR s t r else s) e:=by
 have HX:=hid h
 obtain ⟨c2,f2,hbl⟩:=h.err_cell
 by_cases he:s.e=0
 ·rw[if_pos he]
  rw[errOf,if_pos he] at c2
  cases r with
  |error k =>
   have hk:k≠0:=hr
   have HF:Hid (∀ w2,w.grownBy w2 none→Calls Tryz.prog 56 #[.pointer (some ⟨b,0,none⟩),errV A k] w2 fun e w'=>PrPost A W0 F b w w' (putR s t (.error k)) e):=hid (fun w2 hg=>(prFail_any (HX.out.grow hg) k hk).mono (fun e w' hp=>by
    rw[fail_err he] at hp
    exact HX.out.after hg hp))
   have HBd:=hid hB
   clear h he hl ht hr hE hB hk
   go_enter Tryz.func67,Tryz.ntmps67
   go_wp2_with (first
    |((with_reducible refine (HBd.out _ (World.grownBy_alloc _ _ _)).mono ?_);rintro e w2 ⟨hg2,u,rfl⟩;have HG2:=hid (grown_trans (World.grownBy_alloc w _ none) hg2);clear hg2)
    |(go_at_call 56;refine (HF.out _ HG2.out).mono ?_;rintro e w3 ⟨rfl,k1,k2⟩;have K1:=hid k1;have K2:=hid k2;clear k1 k2))
   go_returns
   exact ⟨rfl,K1.out,K2.out⟩
  |ok l =>
   obtain ⟨hll,hl8⟩:l.length≤1000000000∧∀ x∈l,x<256:=hr
   have htn:=Tl.known_nat (t:Int) ht
   by_cases hbig:65530<l.length
   ·have hst:putR s t (.ok l)={ s with e:=3 }:=by show De.put s t l=_;unfold De.put;rw[if_pos hbig]
    rw[hst]
    have HF:Hid (∀ w2,w.grownBy w2 none→Calls Tryz.prog 56 #[.pointer (some ⟨b,0,none⟩),errV A 3] w2 fun e w'=>PrPost A W0 F b w w' { s with e:=3 } e):=hid (fun w2 hg=>(prFail_any (HX.out.grow hg) 3 (by decide)).mono (fun e w' hp=>by
     rw[fail_err he] at hp
     exact HX.out.after hg hp))
    have HP:Hid (∀ a c W,w.grownBy W none→Bytes W (.slice a l.length c) l→Whole0 (.slice a l.length c)→Calls Tryz.prog 102 #[.agg #[.int .i64 (t:Int),.slice a l.length c]] W fun e w'=>e=.returned (.tuple #[.slice none 0 0,errV A 3])∧W.grownBy w' none):=hid (fun a c W hW hb h0=>(tput_any A t _ l W hb h0 (by omega) (hE.grown (grown_trans HX.out.base hW))).mono (fun e w' hp=>by
     obtain ⟨hp,hg⟩:=hp
     unfold PutPost at hp
     rw[if_neg (by rw[ht];simp),if_pos hbig] at hp
     exact ⟨hp,hg⟩))
    have HBd:=hid hB
    obtain ⟨n,hn⟩:∃ n,n=l.length:=⟨_,rfl⟩
    clear h he hl ht hE hB hll hl8 hbig hst htn
    go_enter Tryz.func67,Tryz.ntmps67
    go_wp2_with (first
     |((with_reducible refine (HBd.out _ (World.grownBy_alloc _ _ _)).mono ?_);rintro e w2 ⟨hg2,a,c,rfl,hb2,h02⟩;have HG2:=hid (grown_trans (World.grownBy_alloc w _ none) hg2);have HB2:=hid hb2;have H02:=hid h02;clear hg2 hb2 h02)
     |(go_at_call 102;refine (HP.out _ _ _ HG2.out HB2.out H02.out).mono ?_;rintro e w3 ⟨rfl,hg3⟩;have HG3:=hid (grown_trans HG2.out hg3);clear hg3)
     |(go_at_call 56;refine (HF.out _ HG3.out).mono ?_;rintro e w4 ⟨rfl,k1,k2⟩;have K1:=hid k1;have K2:=hid k2;clear k1 k2))
    go_returns
    exact ⟨rfl,K1.out,K2.out⟩
   ·have hst:putR s t (.ok l)=De.add s (Tl.elem t l):=by show De.put s t l=_;unfold De.put;rw[if_neg hbig]
    rw[hst]
    have HAd:Hid (∀ w2 x,FrW w w2 x (Tl.elem t l)→Calls Tryz.prog 103 #[.pointer (some ⟨b,0,none⟩),x] w2 fun e w'=>PrPost A W0 F b w w' (De.add s (Tl.elem t l)) e):=hid (fun w2 x hx=>prAdd_new HX.out he hl (elem_len70 hbig) hx.grown (hx.sup (elem_lt256 (by omega) hl8)))
    have HP:Hid (∀ a c W,w.grownBy W none→Bytes W (.slice a l.length c) l→Whole0 (.slice a l.length c)→Calls Tryz.prog 102 #[.agg #[.int .i64 (t:Int),.slice a l.length c]] W fun e w'=>∃ u,e=.returned (.tuple #[u,.nilIface])∧FrW w w' u (Tl.elem t l)):=hid (fun a c W hW hb h0=>(tput_any A t _ l W hb h0 (by omega) (hE.grown (grown_trans HX.out.base hW))).mono (fun e w' hp=>by
     obtain ⟨hp,hg⟩:=hp
     unfold PutPost at hp
     rw[if_neg (by rw[ht];simp),if_neg hbig] at hp
     obtain ⟨u,h1,h2⟩:=hp
     exact ⟨u,h1,h2.of hW⟩))
    have HBd:=hid hB
    obtain ⟨n,hn⟩:∃ n,n=l.length:=⟨_,rfl⟩
    clear h he hl ht hE hB hll hl8 hbig hst htn
    go_enter Tryz.func67,Tryz.ntmps67
    go_wp2_with (first
     |((with_reducible refine (HBd.out _ (World.grownBy_alloc _ _ _)).mono ?_);rintro e w2 ⟨hg2,a,c,rfl,hb2,h02⟩;have HG2:=hid (grown_trans (World.grownBy_alloc w _ none) hg2);have HB2:=hid hb2;have H02:=hid h02;clear hg2 hb2 h02)
     |(go_at_call 102;refine (HP.out _ _ _ HG2.out HB2.out H02.out).mono ?_;rintro e w3 ⟨u,rfl,hf3⟩;have F3:=hid hf3;clear hf3)
     |(go_at_call 103;refine (HAd.out _ _ F3.out).mono ?_;rintro e w4 ⟨rfl,k1,k2⟩;have K1:=hid k1;have K2:=hid k2;clear k1 k2))
    go_returns
    exact ⟨rfl,K1.out,K2.out⟩
 ·rw[if_neg he]
  rw[errOf,if_neg he] at c2
  have HK:Hid (∀ o,Upto F w (w.alloc o)∧PrW A W0 (Ext F w (w.alloc o)) b s (w.alloc o)):=hid (fun o=>⟨Upto.of_grown F (World.grownBy_alloc w o none),HX.out.grow (World.grownBy_alloc w o none)⟩)
  clear h he hE hB
  go_enter Tryz.func67,Tryz.ntmps67
  go_wp2
  go_returns
  exact ⟨rfl,HK.out _⟩
theorem sure_el (g:Nat) (w:World):Calls Tryz.prog 68 #[.func (.func g) #[] #[]] w fun e w'=>e=.returned (.func (.func 110) #[] #[.pointer (some ⟨w.heap.size,0,none⟩)])∧w'=w.alloc (.cells #[.func (.func g) #[] #[]] 111):=by
 have hmf:=mkFn
 go_enter Tryz.func68,Tryz.ntmps68
 go_wp2
 go_ret
 exact ⟨rfl,rfl⟩
theorem sureClo_el (A:Nat→Addr) (g bx:Nat) (xt:Int) (xa:Option Addr) (xn xc:Nat) (l:List Nat) (w:World) (hx:w.cell? ⟨bx,0,none⟩=some (.func (.func g) #[] #[])) (hen:∀ args w,(callFunc g args).run Tryz.prog w=.ok (.enter g args) w)
  (hB:∀ o,Calls Tryz.prog g #[.agg #[.int .i64 xt,.slice xa xn xc]] (w.alloc o) fun e w'=>∃ a c,e=.returned (.slice a l.length c)∧w.grownBy w' none∧Bytes w' (.slice a l.length c) l∧Whole0 (.slice a l.length c)) :
  Calls Tryz.prog 110 #[.agg #[.int .i64 xt,.slice xa xn xc],.pointer (some ⟨bx,0,none⟩)] w fun e w'=>BodyPost A w w' (.ok l) e:=by
 have HB:=hid hB
 have hbx:bx<w.heap.size:=World.block_lt_of_cell? w _ hx
 obtain ⟨n,hn⟩:∃ n,n=l.length:=⟨_,rfl⟩
 clear hB
 go_enter Tryz.func110,Tryz.ntmps110
 go_wp2_with ((with_reducible refine (HB.out _).mono ?_);rintro e w2 ⟨a,c,rfl,hg2,hb2,h02⟩;have HG2:=hid hg2;have HB2:=hid hb2;have H02:=hid h02;clear hg2 hb2 h02)
 go_ret2
 exact ⟨HG2.out,_,_,rfl,HB2.out,H02.out⟩
theorem wpList_callN {P:Program} {ops:Array Oper} {rest:List Oper} {o:Oper} {a:Act} {w:World} {Q:Exit→Act→World→Prop} (hg:o.guard=none) (f:FuncId) {args:Array Value} (hr:(execOp a.eval o).run P w=.ok (.enter f args) w)
  (h:Calls P f args w fun e w'=>∃ v,e=.returned v∧wpList P ops Q rest (a.put o.dst v) w'):wpList P ops Q (o :: rest) a w:=by
 refine wpList_plain hg fun K hK=>?_
 unfold Oper.wp
 rw[hr]
 refine h.mono ?_
 rintro e w' ⟨v,rfl,h1⟩
 exact hK _ _ h1
theorem Lim.pop {m:Nat} {s:De.St} {t:Nat} {l:List (List Nat)} {r:List (Nat×List (List Nat))} (h:Lim m s) (hop:s.op=(t,l) :: r):Lim m { s with op:=r }:=by
 have hc:=levOf_cls s hop
 refine ⟨fun k=>?_,fun k z hz=>?_,fun p hp=>h.tag p (by rw[hop];simp[show p∈r from hp])⟩
 ·by_cases hk:k≤r.length
  ·rw[hc.1 k hk];exact h.len k
  ·rw[levOf_far _ (by show r.length<k;omega)];simp
 ·by_cases hk:k≤r.length
  ·rw[hc.1 k hk] at hz;exact h.big k z hz
  ·rw[levOf_far _ (by show r.length<k;omega)] at hz;simp at hz
def isSu (f g:Nat):Value→World→Prop:=fun x w=>∃ bx,x=.func (.func f) #[] #[.pointer (some ⟨bx,0,none⟩)]∧w.cell? ⟨bx,0,none⟩=some (.func (.func g) #[] #[])
theorem stays_isSu (f g:Nat):Stays (isSu f g):=fun x w w' hg ⟨bx,h1,h2⟩=>⟨bx,h1,(World.cell?_of_block (hg.block bx (World.block_lt_of_cell? w _ h2) (by simp))).trans h2⟩
noncomputable def cl_regionC:Code:=regionIn Tryz.f26.body 6
theorem cl_region (a:Act) (b B:Nat) (t:Int) (pa:Option Addr) (pn pc:Nat) (W w:World) (Q:Exit→Act→World→Prop) (hsz:a.tmps.size=42)
  (h0:a.eval (.tmp 0)=.pointer (some ⟨b,0,none⟩)) (h3:a.eval (.tmp 3)=.pointer (some ⟨B,0,none⟩))
  (hF:∀ w,(Instr.fieldAt 97 (.pointer (some ⟨B,0,none⟩)) 0).run Tryz.prog w=.ok (.pointer (some ⟨B,0,none⟩)) w)
  (hL:∀ w,W.grownBy w none→(Instr.loadAt 3 (.pointer (some ⟨B,0,none⟩))).run Tryz.prog w=.ok (.int .i64 t) w)
  (hL2:∀ w,W.grownBy w none→(Instr.loadAt 97 (.pointer (some ⟨B,0,none⟩))).run Tryz.prog w=.ok (.agg #[.int .i64 t,.slice pa pn pc]) w)
  (hw:W.grownBy { w with drawn:=w.drawn+1 } none)
  (hQ:∀ bx us w',W.grownBy w' none→w'.cell? ⟨bx,0,none⟩=some (.func (.func 69) #[] #[])→Calls Tryz.prog 67 #[.pointer (some ⟨b,0,none⟩),.int .i64 t,.agg #[.int .i64 t,.slice pa pn pc],.func (.func 110) #[] #[.pointer (some ⟨bx,0,none⟩)]] w' fun e w''=>∃ v,e=.returned v∧Q .normal ((fill a [36,37,38,39,40] us).put (some 41) v) w''):cl_regionC.wp Tryz.prog Q a w:=by
 have hmf:=mkFn
 have hst:StaysAll [isV (.pointer (some ⟨b,0,none⟩)),isV (.pointer (some ⟨B,0,none⟩)),isV (.int .i64 t),isV (.agg #[.int .i64 t,.slice pa pn pc]),isSu 110 69]:=⟨stays_V _,stays_V _,stays_V _,stays_V _,stays_isSu _ _,trivial⟩
 conv=>arg 2;whnf
 refine wp_region_flow 5 [36,37,38,39,40] (fun w'=>W.grownBy w' none) (fun w w'=>w.grownBy w' none) (flF [isV (.pointer (some ⟨b,0,none⟩)),isV (.pointer (some ⟨B,0,none⟩)),isV (.int .i64 t),isV (.agg #[.int .i64 t,.slice pa pn pc]),isSu 110 69]) (by kernel_rfl) (by kernel_rfl) (fun _ _ h k=>grown_trans k h) (fun j x w w' hg h=>flF_stays hst j x w w' hg h) hw ?_ ?_
 ·refine ⟨?_,?_,?_,?_,?_,trivial⟩
  ·exact flow_step (fun us w hC hd=>wants_free rfl) (fun us w hC hd=>⟨_,w,move_val rfl ((fill_old (by rfl)).trans h0),grown_refl _ _,rfl⟩)
  ·exact flow_step (fun us w hC hd=>wants_free rfl) (fun us w hC hd=>⟨_,w,fieldc_val rfl ((fill_old (by rfl)).trans h3) (hF w),grown_refl _ _,rfl⟩)
  ·exact flow_step (fun us w hC hd=>wants_free rfl) (fun us w hC hd=>⟨_,w,loadc_val rfl ((fill_tmp (by rfl) (by rw[hsz];decide)).trans (hd 1 (by decide))) (hL w hC),grown_refl _ _,rfl⟩)
  ·exact flow_step (fun us w hC hd=>wants_free rfl) (fun us w hC hd=>⟨_,w,loadc_val rfl ((fill_old (by rfl)).trans h3) (hL2 w hC),grown_refl _ _,rfl⟩)
  ·refine flow_call 68 (fun us=>#[.func (.func 69) #[] #[]]) (fun us w hC hd=>wants_free rfl) (fun us w=>by rw[call_enter rfl (fun _ _=>by simp[go_sem]),List.map_toArray,List.map_cons,List.map_nil];rfl) (fun us w hC' hd=>?_)
   exact (sure_el 69 w).mono (by rintro e w' ⟨rfl,rfl⟩;exact ⟨_,rfl,World.grownBy_alloc _ _ _,_,rfl,cell_blk (alloc_at _ _) 0 rfl⟩)
 ·intro us w' hC' hd
  obtain ⟨bx,hx1,hx2⟩:isSu 110 69 (us 40) w':=hd 4 (by decide)
  refine wpList_callN rfl 67 (args:=#[.pointer (some ⟨b,0,none⟩),.int .i64 t,.agg #[.int .i64 t,.slice pa pn pc],.func (.func 110) #[] #[.pointer (some ⟨bx,0,none⟩)]]) ?_ ?_
  ·rw[call_enter rfl (fun _ _=>by simp[go_sem]),List.map_toArray,List.map_cons,List.map_cons,List.map_cons,List.map_cons,List.map_nil,fill_tmp (by rfl) (by rw[hsz];decide),fill_tmp (by rfl) (by rw[hsz];decide),fill_tmp (by rfl) (by rw[hsz];decide),fill_tmp (by rfl) (by rw[hsz];decide)]
   rw[show us 36=.pointer (some ⟨b,0,none⟩) from hd 0 (by decide),show us 38=.int .i64 t from hd 2 (by decide),show us 39=.agg #[.int .i64 t,.slice pa pn pc] from hd 3 (by decide),hx1]
  ·exact (hQ bx us w' hC' hx2).mono (by rintro e w'' ⟨v,h1,h2⟩;exact ⟨v,h1,h2⟩)
theorem loadEl {w:World} {B:Nat} {t:Int} {v:Value} (h:w.heap[B]?=some (.cells #[.int .i64 t,v] 97 (0,0))):(Instr.loadAt 97 (.pointer (some ⟨B,0,none⟩))).run Tryz.prog w=.ok (.agg #[.int .i64 t,v]) w:=by
 have:=run_loadVar_mid (P:=Tryz.prog) w B 0 97 [.int .i64 t,v] _ (range_all h) Tryz.underlying97 rfl (by kernel_rfl)
 simp[Instr.loadAt,Instr.sureAddr,Result.andThen_ok,this]
theorem cls_put (s:De.St) {t:Nat} {l:List (List Nat)} {r:List (Nat×List (List Nat))} (hop:s.op=(t,l) :: r):De.cls s=De.put { s with op:=r } t (bodyL (t:Int) l):=by
 obtain ⟨e,op,dn⟩:=s
 simp only at hop
 subst hop
 unfold De.cls bodyL
 by_cases h:t=49
 ·subst h;rfl
 ·rw[if_neg (by omega)]
  simp[h]
theorem sort_lt {L:List (List Nat)} (h:∀ z∈L.flatten,z<256) (t:Int):∀ z∈bodyL t L,z<256:=by
 intro z hz
 unfold bodyL at hz
 split at hz
 ·obtain ⟨x,hx,hzx⟩:=List.mem_flatten.1 hz
  exact h z (List.mem_flatten.2 ⟨x,Pt.sort_mem.1 hx,hzx⟩)
 ·exact h z hz
theorem bodyL_len (t:Int) (L:List (List Nat)) (h:L.length≤1000) (hb:∀ z∈L,z.length≤70000):(bodyL t L).length≤70000*1000:=by
 unfold bodyL
 split
 ·have:=cat_len' (Pt.sort L) (fun z hz=>hb z (Pt.sort_mem.1 hz))
  rw[Pt.sort_len] at this
  omega
 ·have:=cat_len' L hb
  omega
theorem each_flat {w:World}:∀ {xs:List Value} {L:List (List Nat)},Each w xs L→∀ z∈L.flatten,z<256
 |[],[],_,z,hz=>by simp at hz
 |v :: vs,l :: ls,h,z,hz=>by
  rw[List.flatten_cons,List.mem_append] at hz
  rcases hz with hz|hz
  ·exact h.1.1.lt z hz
  ·exact each_flat h.2 z hz
theorem prClose_any {A:Nat→Addr} {W0 w:World} {F:Nat→Prop} {b:Nat} {s:De.St} (h:PrW A W0 F b s w) (hA:AllErrs W0 A) (hl:Lim 1000 s) (hm:∀ p∈s.op,Tl.made (p.1:Nat)=true) (v:De.Val) (hk:v.kind=2) :
  Calls Tryz.prog 26 #[.pointer (some ⟨b,0,none⟩)] w fun e w'=>PrPost A W0 F b w w' (De.step s v) e:=by
 have HX:=hid h
 obtain ⟨ov,dv,hc,hbd⟩:=h.body
 have c2:=cell_blk hc 2 rfl
 have c0:=cell_blk hc 0 rfl
 have f0:=free_blk hc 0
 have hbl:=blk_lt hc
 have e24:w.cell? ⟨23,0,none⟩=some (errV A 24):=errs_at (hA.grown h.base) 24 (by decide)
 by_cases he:s.e=0
 ·have hst:De.step s v=De.cls s:=by unfold De.step;rw[if_neg (fun h=>h he),if_neg (by omega),if_pos hk]
  rw[hst]
  rw[errOf,if_pos he] at c2
  obtain ⟨n,pv,hPW⟩:=hbd he
  have hPW0:=hPW
  obtain ⟨xs,hx1,hx2⟩:=hPW.opens
  obtain ⟨oa,og,oc,rfl,_,_,_,_,hop⟩:=own_formN hx1
  have hln:=hPW.len
  cases hsop:s.op with
  |nil =>
   have hn:n=0:=by rw[hln,hsop];rfl
   subst hn
   have hcl:De.cls s=De.fail s 24:=by rw[fail_err he];unfold De.cls;rw[hsop]
   rw[hcl]
   have HF:=hid (prFail_any HX.out 24 (by decide))
   clear h hc he hl hA hst hbd hPW hPW0 hx1 hx2 hop hln hm hsop hcl
   go_enter Tryz.func26,Tryz.ntmps26
   go_wp2_with (go_at_call 56;refine HF.out.mono ?_;rintro e w3 ⟨rfl,k1,k2⟩;have K1:=hid k1;have K2:=hid k2;clear k1 k2)
   go_returns
   exact ⟨rfl,K1.out,K2.out⟩
  |cons p r =>
   obtain ⟨t,l⟩:=p
   have hnr:n=r.length+1:=by rw[hln,hsop];rfl
   obtain ⟨rfl,hogl,hcells,hfree⟩:=hop (by omega)
   have hmt:Tl.made (t:Nat)=true:=hm (t,l) (by rw[hsop];simp)
   have hkt:Tl.known (t:Nat)=true:=by rw[Tl.known,hmt];rfl
   have htag:(tagsOf s).getD r.length 0=(t:Int):=by
    rw[tagsOf_cls s hsop,List.getD_eq_getElem?_getD,List.getElem?_append_right (by rw[tags_len];exact Nat.le_refl _),tags_len]
    simp
   have hce:=hx2 r.length (by omega)
   rw[htag] at hce
   have hca:=hcells _ _ hce.1
   have hcb:=hcells _ _ hce.2
   obtain ⟨ys0,hy0,_⟩:=hPW.parts r.length (by omega)
   obtain ⟨pa,pc,hpv⟩:∃ pa pc,pv r.length=.slice pa ys0.length pc:=by
    obtain ⟨a,g,c,h1,_⟩:=own_formN hy0
    exact ⟨a,c,h1⟩
   obtain ⟨hU,hP,hPar⟩:=PwR.closed (A:=A) h.base h.own h.mem he hsop (by rw[errOf,if_pos he] at hc;exact hc) hPW0
   obtain ⟨wc,hwc⟩:∃ wc,wc=w.setCell ⟨b,0,none⟩ (.slice (some ⟨og,0,none⟩) r.length oc):=⟨_,rfl⟩
   rw[←hwc] at hU hP hPar
   rw[hpv] at hcb hPar
   obtain ⟨ys,hy1,hy2⟩:=hPar
   have hyn:ys0.length=ys.length:=by
    obtain ⟨a,g,c,h1,_⟩:=own_formN hy1
    simp only[Value.slice.injEq] at h1
    exact h1.2.1
   rw[hyn] at hcb hpv hy1
   have hE:=hy2.now
   have hll:l.length≤1000:=by have:=hl.len (r.length+1);rwa [(levOf_cls s hsop).2] at this
   have hlb:∀ z∈l,z.length≤70000:=fun z hz=>hl.big (r.length+1) z (by rw[(levOf_cls s hsop).2];exact hz)
   have hyl:ys.length≤1000:=by rw[hE.len];exact hll
   have hlim:=hl.pop hsop
   have hcl:=cls_put s hsop
   have HWr:Hid (∀ bx W,wc.grownBy W none→W.cell? ⟨bx,0,none⟩=some (.func (.func 69) #[] #[])→Calls Tryz.prog 67 #[.pointer (some ⟨b,0,none⟩),.int .i64 (t:Int),.agg #[.int .i64 (t:Int),.slice pa ys.length pc],.func (.func 110) #[] #[.pointer (some ⟨bx,0,none⟩)]] W fun e w'=>PrPost A W0 F b w w' (De.cls s) e):=hid (fun bx W hW hbx=>by
    refine (prWrite_el (hP.grow hW) hA hlim t hkt (t:Int) pa ys.length pc 110 #[.pointer (some ⟨bx,0,none⟩)] (.ok (bodyL (t:Int) l)) ⟨by have:=bodyL_len (t:Int) l hll hlb;omega,sort_lt (each_flat hE) _⟩ (enters_any Tryz.func110 (by kernel_rfl) rfl) (fun W2 hg2=>?_)).mono (fun e w' hp=>?_)
    ·refine sureClo_el A 69 bx (t:Int) pa ys.length pc _ W2 ((World.cell?_of_block (hg2.block bx (World.block_lt_of_cell? W _ hbx) (by simp))).trans hbx) (enters_any Tryz.func69 (by kernel_rfl) rfl) (fun o=>?_)
     have hgg:=grown_trans (grown_trans hW hg2) (World.grownBy_alloc W2 o none)
     refine (elBody_any (t:Int) pa ys.length pc ys l _ hyl hlb ((Vals.own hy1).grown hgg) (hE.grown hgg) (Whole0.own hy1)).mono (fun e w' hp=>?_)
     obtain ⟨u,h1,h2,h3,h4⟩:=hp
     obtain ⟨a,c,hu⟩:∃ a c,u=.slice a (bodyL (t:Int) l).length c:=by
      obtain ⟨_,a,_,_,c,rfl,_⟩:=h3
      exact ⟨a,c,rfl⟩
     subst hu
     exact ⟨a,c,h1,grown_trans (World.grownBy_alloc W2 o none) h2,h3,h4⟩
    ·rw[if_pos he] at hp
     have hq:=hP.after hW hp
     obtain ⟨q1,q2,q3⟩:=hq
     rw[hcl]
     exact ⟨q1,HX.out.base |> fun hb=>PrW.join hb HX.out.own hU ⟨q2.mono (fun k _ hk=>hk),q3⟩⟩)
   have HWc:=hid hwc
   have HO:Hid ((wc.alloc (.cells #[.int .i64 (t:Int),.slice pa ys.length pc] 97)).heap[w.heap.size]?=some (.cells #[.int .i64 (t:Int),.slice pa ys.length pc] 97 (0,0))):=hid (by
    have:=alloc_at wc (.cells #[.int .i64 (t:Int),.slice pa ys.length pc] 97)
    rwa [show wc.heap.size=w.heap.size by rw[hwc];exact setCell_size _ _ _] at this)
   obtain ⟨m,hmr⟩:∃ m,m=r.length:=⟨_,rfl⟩
   rw[←hmr] at hca hcb hnr HWc
   rw[Nat.mul_comm 2 m] at hca hcb
   have hwm:IntKind.i64.wrap (((n:Nat):Int)-1)=(m:Int):=by
    rw[hnr]
    simp only[IntKind.wrap,IntKind.bits,IntKind.signed]
    have:=hPW0.deep
    simp
    omega
   have hmn:(m:Int)<(n:Int):=by omega
   have hmn2:m≤n:=by omega
   have hnc:n≤oc:=by
    obtain ⟨_,_,_,h1,h2,_⟩:=own_formN hx1
    simp only[Value.slice.injEq] at h1
    omega
   clear h hc he hl hA hst hbd hPW hPW0 hx1 hx2 hop hln hm hsop hcl hcells hmt hkt htag hce hy0 hU hP hy1 hy2 hE hll hlb hyl hlim hwc hpv hyn hmr hnr
   go_enter Tryz.func26,Tryz.ntmps26
   go_wp2
   rw[←HWc.out]
   refine cl_region _ b w.heap.size (t:Int) pa ys.length pc (wc.alloc (.cells #[.int .i64 (t:Int),.slice pa ys.length pc] 97)) _ _ rfl rfl rfl (fun w=>by simp[go_sem]) (fun W hg=>loadI' (cell_blk ((hg.block _ (blk_lt HO.out) (by simp)).trans HO.out) 0 rfl)) (fun W hg=>loadEl ((hg.block _ (blk_lt HO.out) (by simp)).trans HO.out)) ⟨rfl,rfl,rfl,Nat.le_refl _,fun _ _ _=>rfl⟩ (fun bx us w4 hg4 hbx=>?_)
   refine (HWr.out bx w4 (grown_trans (World.grownBy_alloc wc _ none) hg4) hbx).mono ?_
   rintro e w5 ⟨rfl,k1,k2⟩
   refine ⟨_,rfl,?_⟩
   first
    |exact ⟨rfl,.tuple #[],rfl,rfl,k1,k2⟩
    |exact ⟨rfl,.tuple #[],by kernel_rfl,rfl,k1,k2⟩
    |(show bodyPost _ _ _ _ _ _;go_wp2;exact ⟨rfl,k1,k2⟩)
 ·rw[errOf,if_neg he] at c2
  have hst:De.step s v=s:=by unfold De.step;rw[if_pos he]
  rw[hst]
  have HK:=hid HX.out.same
  clear h hc he hA hst hbd hl e24 hm
  go_enter Tryz.func26,Tryz.ntmps26
  go_wp2
  go_returns
  exact ⟨rfl,HK.out⟩
end Go.Proofs.YtjjbkpjjmbfdhaaGreatDoor
