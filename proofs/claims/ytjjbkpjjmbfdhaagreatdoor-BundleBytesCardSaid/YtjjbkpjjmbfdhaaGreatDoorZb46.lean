import Derived.Test.YtjjbkpjjmbfdhaaGreatDoorZb21
import Derived.Test.YtjjbkpjjmbfdhaaGreatDoorZb28
import Derived.Test.YtjjbkpjjmbfdhaaGreatDoorZb34
import Derived.Test.YtjjbkpjjmbfdhaaGreatDoorZb37
import Derived.Test.YtjjbkpjjmbfdhaaGreatDoorZb42
import Derived.Test.YtjjbkpjjmbfdhaaGreatDoorZb43
import Derived.Test.YtjjbkpjjmbfdhaaGreatDoorZb44
set_option linter.unusedVariables false
set_option linter.unusedSimpArgs false
set_option maxRecDepth 100000
set_option maxHeartbeats 16000000
namespace Go.Proofs.YtjjbkpjjmbfdhaaGreatDoor
open Lib (hid)
open Go.RowKit Bu
theorem prRows_an {A:Nat→Addr} {W0 w:World} {F:Nat→Prop} {b:Nat} {s:De.St} (h:PrW A W0 F b s w) (hE:AllErrs W0 A) (tag:Int) (xs:List An) (a:Option Addr) (n c:Nat) (hxs:xs.length=n) (hn:n≤9223372036854775807) (hB:∀ W,Upto F w W→Ans W (.slice a n c) xs) (f:Nat) (caps:Array Value) (st:Nat→De.St)
  (hen:∀ args w,(callFunc f args).run Tryz.prog w=.ok (.enter f args) w) (h0:st 0=if s.e=0 then De.opn s tag else s)
  (hcall:∀ j F' W,j<n→PrW A W0 F' b (st j) W→Calls Tryz.prog f (#[.pointer (some ⟨b,0,none⟩),.agg #[.int .i64 (xs.getD j an0).g,.string (xs.getD j an0).k,.int .i64 (xs.getD j an0).f,.int .i64 (xs.getD j an0).t]]++caps) W fun e w'=>PrPost A W0 F' b W w' (st (j+1)) e)
  (hcl:∀ F' W,PrW A W0 F' b (st n) W→Calls Tryz.prog 26 #[.pointer (some ⟨b,0,none⟩)] W fun e w'=>PrPost A W0 F' b W w' (De.step (st n) { De.none0 with kind:=2 }) e) :
  Calls Tryz.prog 21 #[.pointer (some ⟨b,0,none⟩),.int .i64 tag,.slice a n c,.func (.func f) #[] caps] w fun e w'=>PrPost A W0 F b w w' (De.step (st n) { De.none0 with kind:=2 }) e:=by
 have hI:(Tryz.prog.info? 48).map (·.size)=some 4:=an_info
 have HX:=hid h
 have hfn:∀ W,(binOp .neq 59 (.func (.func f) #[] caps) .nilFunc).run Tryz.prog W=.ok (.bool true) W:=fun W=>rfl
 have HB:=hid hB
 have HXs:=hid hxs
 have HCl:=hid hcall
 have HCs:=hid hcl
 have HO:=hid (prOpen_any h hE tag)
 rw[←h0] at HO
 obtain ⟨T,hT⟩:∃ T,T=De.step (st n) { De.none0 with kind:=2 }:=⟨_,rfl⟩
 rw[←hT] at HCs ⊢
 clear h hE hxs hB hcall hcl h0 hT
 go_enter Tryz.func21,Tryz.ntmps21
 go_wp2_with (go_at_call 18;refine HO.out.mono ?_;rintro e w2 hp;have he:=hp.1;subst he;have R2:Hid (∃ F',RunW A W0 w F F' b (st 0) w2):=hid ⟨_,RunW.first hp⟩;clear hp)
 go_loopw [15] (fun i wr=>∃ (j:Nat) (F':Nat→Prop),j≤n∧i=.int .i64 j∧RunW A W0 w F F' b (st j) wr) (fun i _=>n-(intOf i).toNat)
 case atStart =>
  obtain ⟨F',hF'⟩:=R2.out
  exact ⟨0,F',Nat.zero_le _,rfl,hF'⟩
 case round =>
  obtain ⟨j,F',hj,rfl,hR⟩:=hrel
  have R:=hid hR
  by_cases hjn:j<n
  ·have HC0:=hid (fun W (hW:PrW A W0 F' b (st j) W)=>HCl.out j F' W hjn hW)
   obtain ⟨_,sb,so,_,hv,h3,_,h4⟩:=(HB.out wr hR.upto).form
   rw[HXs.out] at h3 h4 hv
   simp only[Value.slice.injEq] at hv
   obtain ⟨rfl,_,rfl⟩:=hv
   obtain ⟨rfl,hsb⟩:=h3 (by omega)
   obtain ⟨c0,c1,c2,c3⟩:=h4 j hjn
   generalize (xs.getD j an0).g=p1 at *
   generalize (xs.getD j an0).k=p2 at *
   generalize (xs.getD j an0).f=p3 at *
   generalize (xs.getD j an0).t=p4 at *
   obtain ⟨w4,hw4⟩:∃ w4,w4=wr.alloc (.cells #[.int .i64 p1,.string p2,.int .i64 p3,.int .i64 p4] 48):=⟨_,rfl⟩
   have hg4:wr.grownBy w4 none:=by rw[hw4];exact World.grownBy_alloc _ _ _
   have HB4:Hid (w4.heap[wr.heap.size]?=some (.cells #[.int .i64 p1,.string p2,.int .i64 p3,.int .i64 p4] 48 (0,0))):=hid (by rw[hw4];exact alloc_at _ _)
   have R4:=hid (R.out.still hg4)
   have HC:=hid (HC0.out w4 R4.out.wrt)
   have HW4:=hid hw4
   clear hR h4 h3 hw4 hg4 HC0
   go_wp2_with (first
    |(rw[←HW4.out];refine wpList_load_row (by rfl) 48 (.tmp 9) (by rfl) wr.heap.size (by rfl) 48 #[.int .i64 p1,.string p2,.int .i64 p3,.int .i64 p4] (0,0) _ HB4.out Tryz.underlying48 rfl hI ?_)
    |((try rw[←HW4.out]);(with_reducible refine HC.out.mono ?_);rintro e w5 hp;have he:=hp.1;subst he;have R5:=hid (R4.out.call hp);clear hp))
   go_roundw
   case rel=>exact ⟨j+1,_,by omega,by go_num,R5.out⟩
   case measure=>simp[intOf];omega
  ·obtain rfl:j=n:=by omega
   have HC:=hid (HCs.out F' wr hR.wrt)
   clear hR
   go_wp2_with (go_at_call 26;(with_reducible refine HC.out.mono ?_);rintro e w5 hp;have he:=hp.1;subst he;have R5:=hid (R.out.call hp);clear hp)
   go_returns
   exact R5.out.done HX.out.own HX.out.base
theorem bput1_any {A:Nat→Addr} {W0 w:World} {F:Nat→Prop} {b m:Nat} {s:De.St} (x:An) (h:PrW A W0 F b s w) (hA:BodiesOf A W0) (hg:GoodW m s) (hm:m≤900) (hok:okKey x.k=true) (hgi:De.I64 x.g) (hfi:De.I64 x.f) (hti:De.I64 x.t) (hks:x.k.size≤1000) :
  Calls Tryz.prog 22 #[.pointer (some ⟨b,0,none⟩),.agg #[.int .i64 x.g,.string x.k,.int .i64 x.f,.int .i64 x.t]] w fun e w'=>PrPost A W0 F b w w' (putAn s x) e:=by
 obtain ⟨xg,xk,xf,xt⟩:=x
 have hkk:(strL xk).length=32∧hexOk (strL xk)=true:=by
  have:(decide ((strL xk).length=32)&&hexOk (strL xk))=true:=hok
  rw[Bool.and_eq_true,decide_eq_true_eq] at this
  exact this
 have hkl:(kb xk).length=16:=by
  have:=unhex_len (strL xk)
  rw[hkk.1] at this
  exact this
 have hlt:∀ y∈kb xk,y<256:=unhex_lt _ hkk.2
 have g1:=hg.step (wOpen 48) rfl (by simp[wOpen,De.none0])
 have g2:=g1.step (wInt xg) rfl (by simp[wInt,De.none0])
 have g3:GoodW (m+1+1+1) (De.step (De.step (De.step s (wOpen 48)) (wInt xg)) (wOct (kb xk))):=⟨g2.lim.step,De.good_step g2.good ⟨hlt,by simp[wOct,De.none0]⟩⟩
 have g4:=g3.step (wMom xf) rfl (by simp[wMom,De.none0])
 have g5:=g4.step (wMom xt) rfl (by simp[wMom,De.none0])
 obtain ⟨w1,hw1⟩:∃ w1,w1=w.alloc (.cells #[.int .i64 xg,.string xk,.int .i64 xf,.int .i64 xt] 48):=⟨_,rfl⟩
 have hga:w.grownBy w1 none:=by rw[hw1];exact World.grownBy_alloc _ _ _
 have hb1:w1.heap[w.heap.size]?=some (.cells #[.int .i64 xg,.string xk,.int .i64 xf,.int .i64 xt] 48 (0,0)):=by rw[hw1];exact alloc_at _ _
 have HW1:=hid hw1
 have HB1:=hid hb1
 have HG1:=hid hga
 have HX:=hid h
 have HNf:Hid (¬ F w.heap.size):=hid (fun hf=>Nat.lt_irrefl _ (h.own _ hf).2)
 have hby:=bytes_at A xk w1 (by have:xk.size≤1000:=hks;omega) (hA.errs.grown (grown_trans h.base hga))
 unfold ByPostF at hby
 simp only[if_pos hkk] at hby
 have HBy:=hid hby
 have H1:=hid (h.still hga)
 have HKn:Hid (∀ k,k=w1.heap.size→¬ F k):=hid (fun k hk hf=>by subst hk;have:=(h.own _ hf).2;have:=hga.size;omega)
 have HKl:Hid (∀ W,Bytes W (.slice (some ⟨w1.heap.size,0,none⟩) 16 16) (kb xk)→w1.heap.size<W.heap.size):=hid (fun W hb=>by
  obtain ⟨_,_,sb,so,_,e9,_,h4,_⟩:=hb
  simp only[Value.slice.injEq] at e9
  obtain ⟨rfl,_,_⟩:=e9
  have h5:=h4 (by omega)
  have h6:w1.heap.size=sb:=by have:=h5.1;simp only[Option.some.injEq,Addr.mk.injEq] at this;exact this.1
  rw[h6];exact h5.2)
 have HOp:=hid (fun F' W (h:PrW A W0 F' b s W)=>prOpen_step h hA (wOpen 48) rfl)
 have HIn:=hid (fun F' W (h:PrW A W0 F' b (De.step s (wOpen 48)) W)=>prInt_any h hA (g1.lim.mono (by omega)) (wInt xg) rfl hgi)
 have HOc:=hid (fun F' W va vn vc (h:PrW A W0 F' b (De.step (De.step s (wOpen 48)) (wInt xg)) W) hb h0=>prOctets_any h hA (g2.lim.mono (by omega)) (wOct (kb xk)) rfl va vn vc hb h0 (by show (kb xk).length≤1000000;omega))
 have HM1:=hid (fun F' W (h:PrW A W0 F' b (De.step (De.step (De.step s (wOpen 48)) (wInt xg)) (wOct (kb xk))) W)=>prMoment_any h hA (g3.lim.mono (by omega)) (wMom xf) rfl hfi)
 have HM2:=hid (fun F' W (h:PrW A W0 F' b (De.step (De.step (De.step (De.step s (wOpen 48)) (wInt xg)) (wOct (kb xk))) (wMom xf)) W)=>prMoment_any h hA (g4.lim.mono (by omega)) (wMom xt) rfl hti)
 have HCl:=hid (fun F' W (h:PrW A W0 F' b (De.step (De.step (De.step (De.step (De.step s (wOpen 48)) (wInt xg)) (wOct (kb xk))) (wMom xf)) (wMom xt)) W)=>prClose_any h hA.errs (g5.lim.mono (by omega)) (fun p hp=>(g5.good.op p hp).1) wClose rfl)
 have hpp:putAn s ⟨xg,xk,xf,xt⟩=De.step (De.step (De.step (De.step (De.step (De.step s (wOpen 48)) (wInt xg)) (wOct (kb xk))) (wMom xf)) (wMom xt)) wClose:=rfl
 rw[hpp]
 have hn1:(wOpen 48).n=48:=rfl
 have hn2:(wInt xg).n=xg:=rfl
 have hn3:(wMom xf).n=xf:=rfl
 have hn4:(wMom xt).n=xt:=rfl
 have hn5:(wOct (kb xk)).b=kb xk:=rfl
 rw[hn1] at HOp
 rw[hn2] at HIn
 rw[hn3] at HM1
 rw[hn4] at HM2
 rw[hn5] at HOc
 generalize De.step (De.step (De.step (De.step (De.step (De.step s (wOpen 48)) (wInt xg)) (wOct (kb xk))) (wMom xf)) (wMom xt)) wClose=s6 at *
 generalize De.step (De.step (De.step (De.step (De.step s (wOpen 48)) (wInt xg)) (wOct (kb xk))) (wMom xf)) (wMom xt)=s5 at *
 generalize De.step (De.step (De.step (De.step s (wOpen 48)) (wInt xg)) (wOct (kb xk))) (wMom xf)=s4 at *
 generalize De.step (De.step (De.step s (wOpen 48)) (wInt xg)) (wOct (kb xk))=s3 at *
 generalize De.step (De.step s (wOpen 48)) (wInt xg)=s2 at *
 generalize De.step s (wOpen 48)=s1 at *
 have d1:=cell_blk hb1 1 rfl
 rw[hw1] at d1
 clear h hA hg hok hgi hfi hti hks hkk hkl hlt g1 g2 g3 g4 g5 hw1 hga hb1 hpp hn1 hn2 hn3 hn4 hn5 hby
 go_enter Tryz.func22,Tryz.ntmps22
 go_wp2_with (first
  |(go_at_call 23;(try rw[←HW1.out]);(with_reducible refine HBy.out.mono ?_);rintro e w2 ⟨⟨rfl,hkb⟩,hg2⟩;have R2:=hid (RunW.start (H1.out.still hg2));have HG2:=hid (grown_trans HG1.out hg2);have HB2:=hid (hold_b3 HB1.out hg2);have HK2:=hid (HKl.out w2 hkb);have KB:Hid (Sup (fun k=>k=w1.heap.size) w2 (fun W=>Bytes W (.slice (some ⟨w1.heap.size,0,none⟩) 16 16) (kb xk))):=hid (bytes_sup hkb (fun k hk=>by subst hk;exact HKl.out w2 hkb) (fun _ k hk=>by obtain ⟨a9,_,_,e9,rfl⟩:=hk;simp only[Value.slice.injEq,Option.some.injEq] at e9;rw[←e9.1]));clear hg2 hkb)
  |(go_at_call 18;(with_reducible refine (HOp.out _ _ R2.out.wrt).mono ?_);rintro e w3 hp;have he:=hp.1;subst he;have R3:=hid (R2.out.call hp);have b3:=(R3.out.kept (blk_lt HB2.out) HNf.out).trans HB2.out;have d0:=cell_blk b3 0 rfl;have KB3:=hid (KB.out.upto hp.2.1 HKn.out);clear hp b3)
  |(go_at_call 19;(with_reducible refine (HIn.out _ _ R3.out.wrt).mono ?_);rintro e w4 hp;have he:=hp.1;subst he;have R4:=hid (R3.out.call hp);have KB4:=hid (KB3.out.upto hp.2.1 (fun k hk hf=>by subst hk;have h9:=R3.out.sub _ hf;rcases h9 with h9|h9;exact HKn.out _ rfl h9;exact absurd h9.1 (by have:=HK2.out;omega)));clear hp)
  |(go_at_call 24;(with_reducible refine (HOc.out _ _ _ _ _ R4.out.wrt KB4.out.now (Whole0.some _ _ _)).mono ?_);rintro e w5 hp;have he:=hp.1;subst he;have R5:=hid (R4.out.call hp);have b5:=(R5.out.kept (blk_lt HB2.out) HNf.out).trans HB2.out;have d2:=cell_blk b5 2 rfl;clear hp b5)
  |(go_at_call 25;(with_reducible refine (HM1.out _ _ R5.out.wrt).mono ?_);rintro e w6 hp;have he:=hp.1;subst he;have R6:=hid (R5.out.call hp);have b6:=(R6.out.kept (blk_lt HB2.out) HNf.out).trans HB2.out;have d3:=cell_blk b6 3 rfl;clear hp b6)
  |(go_at_call 25;(with_reducible refine (HM2.out _ _ R6.out.wrt).mono ?_);rintro e w7 hp;have he:=hp.1;subst he;have R7:=hid (R6.out.call hp);clear hp)
  |(go_at_call 26;(with_reducible refine (HCl.out _ _ R7.out.wrt).mono ?_);rintro e w8 hp;have he:=hp.1;subst he;have R8:=hid (R7.out.call hp);clear hp))
 go_returns
 exact R8.out.lift HX.out.own HX.out.base HG2.out
theorem putAn_good {m:Nat} {s:De.St} {x:An} (hg:GoodW m s) (hx:okAn x=true):GoodW (m+6) (putAn s x):=by
 have g1:=hg.step (wOpen 48) rfl (by simp[wOpen,De.none0])
 have g2:=g1.step (wInt x.g) rfl (by simp[wInt,De.none0])
 have g3:GoodW (m+1+1+1) (De.step (De.step (De.step s (wOpen 48)) (wInt x.g)) (wOct (kb x.k))):=⟨g2.lim.step,De.good_step g2.good ⟨(key_bytes (okAn_parts hx).1).2,by simp[wOct,De.none0]⟩⟩
 have g4:=g3.step (wMom x.f) rfl (by simp[wMom,De.none0])
 have g5:=g4.step (wMom x.t) rfl (by simp[wMom,De.none0])
 exact (g5.step wClose rfl (by simp[wClose,De.none0])).mono (by omega)
theorem stA_good {m:Nat} {s:De.St} {l:List An} (h:GoodW m s) (hl:okL l=true):∀ (j:Nat),j≤l.length→GoodW (m+1+6*j) (stA s l j)
 |0,_=>by unfold stA;rw[List.take_zero];exact h.step (wOpen 49) rfl (by simp[wOpen,De.none0])
 |j+1,hj=>by
  rw[stA_succ (by omega)]
  exact (putAn_good (stA_good h hl j (by omega)) (okL_at hl j (by omega))).mono (by omega)
theorem Ans.of_upto {w0 w W:World} {F:Nat→Prop} {v:Value} {l:List An} (h:Ans w0 v l) (hg:w0.grownBy w none) (hF:∀ k,F k→w0.heap.size≤k) (hu:Upto F w W):Ans W v l:=by
 obtain ⟨⟨h1,a,g,o,c,rfl,h2,h3⟩,h0⟩:=h
 have hs:=hg.size
 have hs2:=hu.size
 refine ⟨⟨h1,a,g,o,c,rfl,fun hp=>⟨(h2 hp).1,by have:=(h2 hp).2;omega⟩,fun j v hj=>?_⟩,h0⟩
 have hp:0<l.length:=by
  rcases Nat.eq_zero_or_pos l.length with h9|h9
  ·rw[List.length_eq_zero_iff.1 h9] at hj;cases hj
  ·exact h9
 have hb:=(h2 hp).2
 rw[World.cell?_of_block ((hu.block g (by omega) (fun hf=>by have:=hF _ hf;omega)).trans (hg.block g hb (by simp)))]
 exact h3 j v hj
theorem brows_any {A:Nat→Addr} {W0 w:World} {F:Nat→Prop} {b m:Nat} {s:De.St} (l:List An) (a:Option Addr) (n c:Nat) (h:PrW A W0 F b s w) (hA:BodiesOf A W0) (hg:GoodW m s) (hm:m≤800) (hok:okL l=true) (hk:∀ x∈l,x.k.size≤1000) (hn:l.length=n) (hB:∀ W,Upto F w W→Ans W (.slice a n c) l) :
  Calls Tryz.prog 21 #[.pointer (some ⟨b,0,none⟩),.int .i64 49,.slice a n c,.func (.func 22) #[] #[]] w fun e w'=>PrPost A W0 F b w w' (putAns s l) e:=by
 have h8:l.length≤8:=by
  unfold okL at hok
  rw[Bool.and_eq_true,decide_eq_true_eq] at hok
  exact hok.1.2
 have hrow:putAns s l=De.step (stA s l n) { De.none0 with kind:=2 }:=by unfold putAns stA;rw[←hn,List.take_length];rfl
 rw[hrow]
 refine prRows_an h hA.errs 49 l a n c hn (by omega) hB 22 #[] (stA s l) (fun _ _=>by simp[go_sem]) ?_ (fun j F' W hj hW=>?_) (fun F' W hW=>?_)
 ·unfold stA De.step
  rw[List.take_zero]
  by_cases he:s.e=0
  ·rw[List.foldl_nil,if_neg (by omega),if_pos he,if_pos (by rfl)];rfl
  ·rw[List.foldl_nil,if_pos he,if_neg he]
 ·rw[stA_succ (by omega)]
  obtain ⟨k1,k2,k3,k4⟩:=okAn_parts (okL_at hok j (by omega))
  exact bput1_any _ hW hA (stA_good hg hok j (by omega)) (by omega) k1 k2 k3 k4 (hk _ (by rw[List.getD_eq_getElem?_getD,List.getElem?_eq_getElem (by omega)];exact List.getElem_mem _))
 ·have hgd:=stA_good hg hok n (by omega)
  exact prClose_any hW hA.errs (hgd.lim.mono (by omega)) (fun p hp=>(hgd.good.op p hp).1) _ rfl
theorem okKey_hex {k:ByteArray} (h:okKey k=true):(strL k).length=32∧hexOk (strL k)=true:=by
 have:(decide ((strL k).length=32)&&hexOk (strL k))=true:=h
 rwa [Bool.and_eq_true,decide_eq_true_eq] at this
theorem whole_of {w:World} {a:Option Addr} {n c:Nat} {l:List Nat} (h:Bytes w (.slice a n c) l) (hp:0<l.length):Whole0 (.slice a n c):=by
 obtain ⟨_,a',sb,so,c',e9,_,h4,_⟩:=h
 simp only[Value.slice.injEq] at e9
 obtain ⟨rfl,_,_⟩:=e9
 have h5:=(h4 hp).1
 rw[h5]
 exact Whole0.some _ _ _
theorem refPutID_any {W0 w wr:World} {F F':Nat→Prop} {b m:Nat} {s:De.St} (k:ByteArray) (hw:∀ k,F k→k<w.heap.size) (h:RunD W0 w F F' b s wr) (hl:Lim m s) (hm:m≤1000) (hk:okKey k=true) :
  Calls Tryz.prog 48 #[.pointer (some ⟨b,0,none⟩),.string k] wr fun e w'=>e=.returned (.tuple #[])∧∃ F2,RunD W0 w F F2 b (De.step s (wOct (kb k))) w':=by
 obtain ⟨h32,hhx⟩:=okKey_hex hk
 have hs:k.size≤1000000:=by have:=strL_len k;omega
 have hb16:=(key_bytes hk).1
 have HB:Hid (Calls Tryz.prog 73 #[.string k] wr fun e w'=>(∃ a c,e=.returned (.tuple #[.slice a 16 c,.bool true])∧Bytes w' (.slice a 16 c) (kb k)∧Whole0 (.slice a 16 c))∧wr.grownBy w' none):=hid ((refBytes_any k wr hs).mono (fun e w' ⟨h1,h2⟩=>by
  refine ⟨?_,h2⟩
  unfold RbPost at h1
  rcases h1 with ⟨h3,_⟩|⟨_,a,m',c,h4,h5⟩
  ·rw[hhx] at h3;cases h3
  ·obtain ⟨rfl,h6⟩:=h5 h32
   rw[h32] at h4
   exact ⟨a,c,h4,h6,whole_of h6 (by show 0<(kb k).length;omega)⟩))
 have HD:=hid (fun W a c (hW:wr.grownBy W none) (hb:Bytes W (.slice a 16 c) (kb k)) (h0:Whole0 (.slice a 16 c))=>RunD.did6 hw (h.still hW) hl hm (wOct (kb k)) a 16 c rfl rfl rfl rfl hb h0 (by show (kb k).length≤1000000;omega))
 generalize De.step s (wOct (kb k))=s2 at *
 generalize kb k=K at *
 clear hw h hl hm hk h32 hhx hs hb16
 go_enter Tryz.func48,Tryz.ntmps48
 go_wp2_with (first
  |(go_at_call 73;refine HB.out.mono ?_;rintro e w1 ⟨⟨a,c,rfl,hb,h0⟩,hg⟩;have HX:=hid (HD.out _ _ _ hg hb h0);clear hb h0 hg)
  |(go_at_call 47;(with_reducible refine HX.out.mono ?_);rintro e w2 ⟨rfl,F2,h2⟩;have R2:=hid h2;clear h2))
 go_returns
 exact ⟨rfl,F2,R2.out⟩
theorem stA_lim {m:Nat} {s:De.St} (l:List An) (hl:Lim m s):∀ (j:Nat),j≤l.length→Lim (m+1+6*j) (stA s l j)
 |0,_=>by unfold stA;rw[List.take_zero];exact hl.step
 |j+1,h=>by
  rw[stA_succ (by omega)]
  exact ((stA_lim l hl j (by omega)).step.step.step.step.step.step).mono (by omega)
theorem refBbytes_ok (v:Int) (sp:ByteArray) (a:Value) (l:List An) (w:World) (hA:Ans w a l) (hr:right ⟨v,sp,l⟩=true) :
  Calls Tryz.prog 13 #[.agg #[.int .i64 v,.string sp,a]] w fun e w'=>∃ u,e=.returned u∧w.grownBy w' none∧Bytes w' u (BB ⟨v,sp,l⟩):=by
 have hI:(Tryz.prog.info? 34).map (·.size)=some 3:=by kernel_rfl
 have hIA:(Tryz.prog.info? 43).map (·.size)=some 4:=by kernel_rfl
 obtain ⟨hv,hlb,hok,h8,hall⟩:=right_all hr
 replace h8:l.length≤8:=h8
 replace hlb:Pt.label (strL sp)=true:=hlb
 replace hall:∀ x∈l,okAn x=true:=hall
 have hsp:sp.size≤1000:=by
  have:=(De.label_asked (m:=24) hlb (by omega)).2
  rw[strL_len] at this
  omega
 have hdn:De.done (docBd ⟨v,sp,l⟩)=.ok (BB ⟨v,sp,l⟩):=by rw[docBd_eq hr];exact done_bd hr
 have hlt:=bb_lt hr
 obtain ⟨w1,hw1⟩:∃ w1,w1=w.alloc (.cells #[.int .i64 v,.string sp,a] 34):=⟨_,rfl⟩
 have hg1:w.grownBy w1 none:=by rw[hw1];exact World.grownBy_alloc _ _ _
 have hs1:w1.heap.size=w.heap.size+1:=by rw[hw1];exact alloc_size _ _
 have hb1:w1.heap[w.heap.size]?=some (.cells #[.int .i64 v,.string sp,a] 34 (0,0)):=by rw[hw1];exact alloc_at _ _
 obtain ⟨w2,hw2⟩:∃ w2,w2=w1.alloc (.cells #[.slice none 0 0,.slice none 0 0,.int .i64 0] 83):=⟨_,rfl⟩
 have hg2:w1.grownBy w2 none:=by rw[hw2];exact World.grownBy_alloc _ _ _
 have hb2:=(hg2.block w.heap.size (blk_lt hb1) (by simp)).trans hb1
 have hR0:RefW w1 (fun k=>k=w.heap.size+1) (w.heap.size+1) De.St.zero w2:=by
  have:=RefW.new (grown_refl w1 none)
  rwa [hs1,←hw2] at this
 have HB2:=hid hb2
 have HW2:Hid (w2=(w.alloc (.cells #[.int .i64 v,.string sp,a] 34)).alloc (.cells #[.slice none 0 0,.slice none 0 0,.int .i64 0] 83)):=hid (by rw[hw2,hw1])
 obtain ⟨FX,hFX⟩:∃ FX:Nat→Prop,FX=(fun k=>k=w.heap.size+1):=⟨_,rfl⟩
 rw[←hFX] at hR0
 have HFl:Hid (∀ k,FX k→k<w2.heap.size):=hid (fun k hk=>(hR0.own k hk).2)
 have HNf:Hid (¬ FX w.heap.size):=hid (by rw[hFX];omega)
 have R2:=hid (RunD.start hR0)
 have HAn:Hid (∀ W,w1.grownBy W none→Ans W a l):=hid (fun W hW=>hA.grown (grown_trans hg1 hW))
 have HGf:Hid (w.grownBy w1 none):=hid hg1
 obtain ⟨t1,ht1⟩:∃ t1,t1=De.step De.St.zero (wOpen 48):=⟨_,rfl⟩
 obtain ⟨t2,ht2⟩:∃ t2,t2=De.step t1 (wInt v):=⟨_,rfl⟩
 obtain ⟨t3,ht3⟩:∃ t3,t3=De.step t2 (wTxt 64 sp):=⟨_,rfl⟩
 obtain ⟨T,hT⟩:∃ T,T=stA t3 l:=⟨_,rfl⟩
 have L0:=Lim.zero
 have L1:Lim 1 t1:=by rw[ht1];exact L0.step
 have L2:Lim 2 t2:=by rw[ht2];exact L1.step
 have L3:Lim 3 t3:=by rw[ht3];exact L2.step
 have HLm:=hid (fun j (hj:j≤l.length)=>(by rw[hT];exact stA_lim l L3 j hj:Lim (3+1+6*j) (T j)))
 have HT0:T 0=De.step t3 (wOpen 49):=by rw[hT];unfold stA;rw[List.take_zero];rfl
 have HSu:=hid (fun j (hj:j<l.length)=>(by rw[hT];exact stA_succ hj:T (j+1)=putAn (T j) (l.getD j an0)))
 have HEnd:De.step (De.step (T l.length) wClose) wClose=docBd ⟨v,sp,l⟩:=by
  unfold docBd putAns
  rw[hT]
  unfold stA
  rw[List.take_length,ht3,ht2,ht1]
 rw[←HEnd] at hdn
 have HO1:=hid (RunD.did HFl.out R2.out L0 (by omega) (wOpen 48) 1 48 ⟨#[]⟩ rfl rfl rfl rfl rfl (by decide))
 have HO2:=hid (fun F W (h:RunD w1 w2 FX F (w.heap.size+1) t1 W)=>RunD.did HFl.out h L1 (by omega) (wInt v) 3 v ⟨#[]⟩ rfl rfl rfl rfl rfl (by decide))
 have HO3:=hid (fun F W (h:RunD w1 w2 FX F (w.heap.size+1) t2 W)=>RunD.did HFl.out h L2 (by omega) (wTxt 64 sp) 7 64 sp rfl rfl rfl rfl rfl hsp)
 have HO4:=hid (fun F W (h:RunD w1 w2 FX F (w.heap.size+1) t3 W)=>RunD.did HFl.out h L3 (by omega) (wOpen 49) 1 49 ⟨#[]⟩ rfl rfl rfl rfl rfl (by decide))
 rw[←ht1] at HO1
 rw[←ht2] at HO2
 rw[←ht3] at HO3
 rw[←HT0] at HO4
 have L5:Lim (3+1+6*l.length+1) (De.step (T l.length) wClose):=(HLm.out l.length (Nat.le_refl _)).step
 have HO5:=hid (fun F W (h:RunD w1 w2 FX F (w.heap.size+1) (T l.length) W)=>RunD.did HFl.out h (HLm.out l.length (Nat.le_refl _)) (by omega) wClose 2 0 ⟨#[]⟩ rfl rfl rfl rfl rfl (by decide))
 have HO6:=hid (fun F W (h:RunD w1 w2 FX F (w.heap.size+1) (De.step (T l.length) wClose) W)=>RunD.did HFl.out h L5 (by omega) wClose 2 0 ⟨#[]⟩ rfl rfl rfl rfl rfl (by decide))
 have HD:Hid (∀ F W,RefW w1 F (w.heap.size+1) (De.step (De.step (T l.length) wClose) wClose) W→Calls Tryz.prog 49 #[.pointer (some ⟨w.heap.size+1,0,none⟩)] W fun e w'=>∃ u9,e=.returned (.tuple #[u9,.int .i64 0])∧w.grownBy w' none∧Bytes w' u9 (BB ⟨v,sp,l⟩)):=hid (fun F W h=>(refDone_any h L5.step (by omega)).mono (fun e w' hp=>by
  obtain ⟨hg,hp⟩:=hp
  rw[hdn] at hp
  obtain ⟨u,e1,hf⟩:=hp
  exact ⟨u,e1,grown_trans (grown_trans hg1 h.base) hg,Bytes.own hf.own hlt⟩))
 have HAl:=hid (fun j (hj:j<l.length)=>(by
  rw[List.getD_eq_getElem?_getD,List.getElem?_eq_getElem hj]
  exact hall _ (List.getElem_mem _):okAn (l.getD j an0)=true))
 generalize BB ⟨v,sp,l⟩=L at *
 generalize De.step (De.step (T l.length) wClose) wClose=t6 at *
 generalize De.step (T l.length) wClose=t5 at *
 obtain ⟨a1,ag,ao,ac,rfl,hap,-,-⟩:=hA.form
 obtain ⟨n,hn⟩:∃ n,n=l.length:=⟨_,rfl⟩
 have HNn:=hid hn
 rw[←hn] at HO5 HLm HSu HAl HAn h8 HB2 HW2 ⊢
 clear hA hr hv hlb hok hall hsp hdn hlt hw1 hg1 hs1 hb1 hw2 hg2 hb2 hR0 hFX ht1 ht2 ht3 hT L0 L1 L2 L3 HT0 HEnd L5 hn hap
 go_enter Tryz.func13,Tryz.ntmps13
 go_wp2_with (first
  |(go_at_call 47;(try rw[←HW2.out]);(with_reducible refine HO1.out.mono ?_);rintro e w3 ⟨rfl,F3,h3⟩;have R3:=hid h3;have b3:=(h3.kept (blk_lt HB2.out) HNf.out).trans HB2.out;have d0:=cell_blk b3 0 rfl;clear h3 b3)
  |(go_at_call 47;(with_reducible refine (HO2.out _ _ R3.out).mono ?_);rintro e w4 ⟨rfl,F4,h4⟩;have R4:=hid h4;have b4:=(h4.kept (blk_lt HB2.out) HNf.out).trans HB2.out;have d1:=cell_blk b4 1 rfl;clear h4 b4)
  |(go_at_call 47;(with_reducible refine (HO3.out _ _ R4.out).mono ?_);rintro e w5 ⟨rfl,F5,h5⟩;have R5:=hid h5;clear h5)
  |(go_at_call 47;(with_reducible refine (HO4.out _ _ R5.out).mono ?_);rintro e w6 ⟨rfl,F6,h6⟩;have R6:=hid h6;have b6:=(h6.kept (blk_lt HB2.out) HNf.out).trans HB2.out;have d2:=cell_blk b6 2 rfl;clear h6 b6))
 go_loopw [29] (fun i wr=>∃ (j:Nat) (F':Nat→Prop),j≤n∧i=.int .i64 j∧RunD w1 w2 FX F' (w.heap.size+1) (T j) wr) (fun i _=>n-(intOf i).toNat)
 case atStart=>exact ⟨0,F6,Nat.zero_le _,rfl,R6.out⟩
 case round =>
  obtain ⟨j,F',hj,rfl,hR⟩:=hrel
  have R:=hid hR
  by_cases hjn:j<n
  ·obtain ⟨_,sb,so,_,hv9,ha9,_,hcs⟩:=(HAn.out wr hR.wrt.base).form
   rw[←HNn.out] at hv9 ha9 hcs
   simp only[Value.slice.injEq] at hv9
   obtain ⟨rfl,_,rfl⟩:=hv9
   obtain ⟨rfl,hsb⟩:=ha9 (by omega)
   obtain ⟨c0,c1,c2,c3⟩:=hcs j hjn
   have hx:=HAl.out j hjn
   have hsu:=HSu.out j hjn
   have hlm:=HLm.out j (by omega)
   obtain ⟨xg,hxg⟩:∃ xg,xg=(l.getD j an0).g:=⟨_,rfl⟩
   obtain ⟨xk,hxk⟩:∃ xk,xk=(l.getD j an0).k:=⟨_,rfl⟩
   obtain ⟨xf,hxf⟩:∃ xf,xf=(l.getD j an0).f:=⟨_,rfl⟩
   obtain ⟨xt,hxt⟩:∃ xt,xt=(l.getD j an0).t:=⟨_,rfl⟩
   have hok:=(okAn_all hx).1
   have hpp:putAn (T j) (l.getD j an0)=De.step (De.step (De.step (De.step (De.step (De.step (T j) (wOpen 48)) (wInt xg)) (wOct (kb xk))) (wMom xf)) (wMom xt)) wClose:=by rw[hxg,hxk,hxf,hxt];rfl
   rw[hpp] at hsu
   rw[←hxg] at c0
   rw[←hxk] at c1 hok
   rw[←hxf] at c2
   rw[←hxt] at c3
   obtain ⟨w7,hw7⟩:∃ w7,w7=wr.alloc (.cells #[.int .i64 xg,.string xk,.int .i64 xf,.int .i64 xt] 43):=⟨_,rfl⟩
   have hg7:wr.grownBy w7 none:=by rw[hw7];exact World.grownBy_alloc _ _ _
   have hb7:w7.heap[wr.heap.size]?=some (.cells #[.int .i64 xg,.string xk,.int .i64 xf,.int .i64 xt] 43 (0,0)):=by rw[hw7];exact alloc_at _ _
   have HW7:=hid hw7
   have HB7:=hid hb7
   have HN7:Hid (¬ F' wr.heap.size):=hid (fun hf=>Nat.lt_irrefl _ (hR.wrt.own _ hf).2)
   have hk7:∀ k,F' k→k<w7.heap.size:=fun k hk=>Nat.lt_of_lt_of_le (hR.wrt.own k hk).2 hg7.size
   have R7:=hid (R.out.still hg7)
   have hR7:=RunD.start (R7.out.wrt)
   have HD1:=hid (RunD.did hk7 hR7 hlm (by omega) (wOpen 48) 1 48 ⟨#[]⟩ rfl rfl rfl rfl rfl (by decide))
   have HD2:=hid (fun F W (h:RunD w1 w7 F' F (w.heap.size+1) (De.step (T j) (wOpen 48)) W)=>RunD.did hk7 h hlm.step (by omega) (wInt xg) 3 xg ⟨#[]⟩ rfl rfl rfl rfl rfl (by decide))
   have HD3:=hid (fun F W (h:RunD w1 w7 F' F (w.heap.size+1) (De.step (De.step (T j) (wOpen 48)) (wInt xg)) W)=>refPutID_any xk hk7 h hlm.step.step (by omega) hok)
   have HD4:=hid (fun F W (h:RunD w1 w7 F' F (w.heap.size+1) (De.step (De.step (De.step (T j) (wOpen 48)) (wInt xg)) (wOct (kb xk))) W)=>RunD.did hk7 h hlm.step.step.step (by omega) (wMom xf) 9 xf ⟨#[]⟩ rfl rfl rfl rfl rfl (by decide))
   have HD5:=hid (fun F W (h:RunD w1 w7 F' F (w.heap.size+1) (De.step (De.step (De.step (De.step (T j) (wOpen 48)) (wInt xg)) (wOct (kb xk))) (wMom xf)) W)=>RunD.did hk7 h hlm.step.step.step.step (by omega) (wMom xt) 9 xt ⟨#[]⟩ rfl rfl rfl rfl rfl (by decide))
   have HD6:=hid (fun F W (h:RunD w1 w7 F' F (w.heap.size+1) (De.step (De.step (De.step (De.step (De.step (T j) (wOpen 48)) (wInt xg)) (wOct (kb xk))) (wMom xf)) (wMom xt)) W)=>RunD.did hk7 h hlm.step.step.step.step.step (by omega) wClose 2 0 ⟨#[]⟩ rfl rfl rfl rfl rfl (by decide))
   rw[←hsu] at HD6
   generalize De.step (De.step (De.step (De.step (De.step (T j) (wOpen 48)) (wInt xg)) (wOct (kb xk))) (wMom xf)) (wMom xt)=q5 at *
   generalize De.step (De.step (De.step (De.step (T j) (wOpen 48)) (wInt xg)) (wOct (kb xk))) (wMom xf)=q4 at *
   generalize De.step (De.step (De.step (T j) (wOpen 48)) (wInt xg)) (wOct (kb xk))=q3 at *
   generalize De.step (De.step (T j) (wOpen 48)) (wInt xg)=q2 at *
   generalize De.step (T j) (wOpen 48)=q1 at *
   clear hR ha9 hcs hx hsu hlm hxg hxk hxf hxt hok hpp hw7 hg7 hb7 hk7 hR7 hsb
   go_wp2_with (first
    |(go_at_call 47;(try rw[←HW7.out]);(with_reducible refine HD1.out.mono ?_);rintro e w8 ⟨rfl,F8,h8'⟩;have R8:=hid h8';have b8:=(h8'.kept (blk_lt HB7.out) HN7.out).trans HB7.out;have e0:=cell_blk b8 0 rfl;clear h8' b8)
    |(go_at_call 47;(with_reducible refine (HD2.out _ _ R8.out).mono ?_);rintro e w9 ⟨rfl,F9,h9⟩;have R9:=hid h9;have b9:=(h9.kept (blk_lt HB7.out) HN7.out).trans HB7.out;have e1:=cell_blk b9 1 rfl;clear h9 b9)
    |(go_at_call 48;(with_reducible refine (HD3.out _ _ R9.out).mono ?_);rintro e w10 ⟨rfl,F10,h10⟩;have R10:=hid h10;have b10:=(h10.kept (blk_lt HB7.out) HN7.out).trans HB7.out;have e2:=cell_blk b10 2 rfl;clear h10 b10)
    |(go_at_call 47;(with_reducible refine (HD4.out _ _ R10.out).mono ?_);rintro e w11 ⟨rfl,F11,h11⟩;have R11:=hid h11;have b11:=(h11.kept (blk_lt HB7.out) HN7.out).trans HB7.out;have e3:=cell_blk b11 3 rfl;clear h11 b11)
    |(go_at_call 47;(with_reducible refine (HD5.out _ _ R11.out).mono ?_);rintro e w12 ⟨rfl,F12,h12⟩;have R12:=hid h12;clear h12)
    |(go_at_call 47;(with_reducible refine (HD6.out _ _ R12.out).mono ?_);rintro e w13 ⟨rfl,F13,h13⟩;have R13:=hid h13;clear h13))
   go_roundw
   case rel=>exact ⟨j+1,F13,by omega,by go_num,R7.out.comp R13.out⟩
   case measure=>simp[intOf];omega
  ·obtain rfl:j=n:=by omega
   clear hR
   go_wp2_with (first
    |(go_at_call 47;(with_reducible refine (HO5.out _ _ R.out).mono ?_);rintro e w8 ⟨rfl,F8,h8'⟩;have R8:=hid h8';clear h8')
    |(go_at_call 47;(with_reducible refine (HO6.out _ _ R8.out).mono ?_);rintro e w9 ⟨rfl,F9,h9⟩;have R9:=hid h9;clear h9)
    |(go_at_call 49;(with_reducible refine (HD.out _ _ R9.out.wrt).mono ?_);rintro e w10 ⟨v4,rfl,hg4,hb4⟩;have G4:=hid hg4;have B4:=hid hb4;clear hg4 hb4))
   go_ret
   exact ⟨_,rfl,G4.out,B4.out⟩
end Go.Proofs.YtjjbkpjjmbfdhaaGreatDoor
