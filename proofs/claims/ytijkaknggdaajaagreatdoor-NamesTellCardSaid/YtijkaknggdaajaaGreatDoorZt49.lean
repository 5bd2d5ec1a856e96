import Derived.Test.YtijkaknggdaajaaGreatDoorZt22
import Derived.Test.YtijkaknggdaajaaGreatDoorZt23
import Derived.Test.YtijkaknggdaajaaGreatDoorZt24
import Derived.Test.YtijkaknggdaajaaGreatDoorZt36
import Derived.Test.YtijkaknggdaajaaGreatDoorZt37
import Derived.Test.YtijkaknggdaajaaGreatDoorZt43
import Derived.Test.YtijkaknggdaajaaGreatDoorZt44
import Derived.Test.YtijkaknggdaajaaGreatDoorZt48
set_option linter.unusedVariables false
set_option linter.unusedSimpArgs false
set_option maxRecDepth 100000
set_option maxHeartbeats 8000000
namespace Go.Proofs.YtijkaknggdaajaaGreatDoor
open Lib (hid)
open Go.RowKit
theorem RunW.start {A:Nat→Addr} {W0 w:World} {F:Nat→Prop} {b:Nat} {s:De.St} (h:PrW A W0 F b s w):RunW A W0 w F F b s w:=⟨Upto.refl F w,h,fun k hk=>.inl hk⟩
theorem RunW.kept {A:Nat→Addr} {W0 w wr:World} {F F':Nat→Prop} {b k:Nat} {s':De.St} (h:RunW A W0 w F F' b s' wr) (hk:k<w.heap.size) (hf:¬ F k):wr.heap[k]?=w.heap[k]?:=h.upto.block k hk hf
theorem RunW.lift {A:Nat→Addr} {W0 w0 w wr:World} {F F':Nat→Prop} {b:Nat} {s':De.St} (hF:∀ k,F k→W0.heap.size≤k∧k<w0.heap.size) (hb:W0.grownBy w0 none) (hg:w0.grownBy w none) (h:RunW A W0 w F F' b s' wr):PrPost A W0 F b w0 wr s' (.returned (.tuple #[])):=by
 have h1:=hg.size
 have h2:=h.upto.size
 refine ⟨rfl,(Upto.of_grown F hg).trans h.upto (fun _ _ h=>h),h.wrt.wide (fun k hk=>?_) (ext_own hb hF (by omega))⟩
 rcases h.sub k hk with h3|h3
 ·exact .inl h3
 ·exact .inr ⟨by omega,h3.2⟩
structure GoodW (m:Nat) (s:De.St):Prop where
 lim:Lim m s
 good:De.Good s
theorem GoodW.step {m:Nat} {s:De.St} (h:GoodW m s) (v:De.Val) (hb:v.b=[]) (ht:∀ x∈v.t,x<256):GoodW (m+1) (De.step s v) :=
 ⟨h.lim.step,De.good_step h.good ⟨by rw[hb];simp,ht⟩⟩
theorem nput1_any {A:Nat→Addr} {W0 w:World} {F:Nat→Prop} {b m:Nat} {s:De.St} (p:Na.Pr) (h:PrW A W0 F b s w) (hA:BodiesOf A W0) (hg:GoodW m s) (hm:m≤900) (h1:p.1.size≤2000) (h2:p.2.size≤2000) :
  Calls Tryz.prog 62 #[.pointer (some ⟨b,0,none⟩),.agg #[.string p.1,.string p.2]] w fun e w'=>PrPost A W0 F b w w' (Na.putPart s p) e:=by
 obtain ⟨p1,p2⟩:=p
 have g1:=hg.step Na.vOpen rfl (by simp[Na.vOpen,De.none0])
 have g2:=g1.step (Na.vOid p1) rfl (fun x hx=>strL_lt p1 x hx)
 have g3:=g2.step (Na.vTxt p2) rfl (fun x hx=>strL_lt p2 x hx)
 obtain ⟨w1,hw1⟩:∃ w1,w1=w.alloc (.cells #[.string p1,.string p2] 88):=⟨_,rfl⟩
 have hga:w.grownBy w1 none:=by rw[hw1];exact World.grownBy_alloc _ _ _
 have hb1:w1.heap[w.heap.size]?=some (.cells #[.string p1,.string p2] 88 (0,0)):=by rw[hw1];exact alloc_at _ _
 have HW1:=hid hw1
 have HB1:=hid hb1
 have HG1:=hid hga
 have HX:=hid h
 have HNf:Hid (¬ F w.heap.size):=hid (fun hf=>Nat.lt_irrefl _ (h.own _ hf).2)
 have HWk:=hid (fun k (hk:F k)=>(Nat.lt_of_lt_of_le (h.own k hk).2 hga.size:k<w1.heap.size))
 have R1:=hid (RunW.start (h.still hga))
 have HOp:=hid (prOpen_step (h.still hga) hA Na.vOpen rfl)
 have HOi:=hid (fun F' W (h:PrW A W0 F' b (De.step s Na.vOpen) W)=>prOID_any h hA (g1.lim.mono (by omega)) (Na.vOid p1) rfl p1 rfl h1)
 have HTx:=hid (fun F' W (h:PrW A W0 F' b (De.step (De.step s Na.vOpen) (Na.vOid p1)) W)=>prText_any h hA (g2.lim.mono (by omega)) (Na.vTxt p2) rfl ⟨by show (-9223372036854775808:Int)≤64;decide,by show (64:Int)≤9223372036854775807;decide⟩ p2 rfl h2)
 have HCl:=hid (fun F' W (h:PrW A W0 F' b (De.step (De.step (De.step s Na.vOpen) (Na.vOid p1)) (Na.vTxt p2)) W)=>prClose_any h hA.errs (g3.lim.mono (by omega)) (fun p hp=>(g3.good.op p hp).1) Na.vClose rfl)
 have hpp:Na.putPart s (p1,p2)=De.step (De.step (De.step (De.step s Na.vOpen) (Na.vOid p1)) (Na.vTxt p2)) Na.vClose:=rfl
 rw[hpp]
 have hn1:Na.vOpen.n=48:=rfl
 have hn2:(Na.vTxt p2).n=64:=rfl
 rw[hn1] at HOp
 rw[hn2] at HTx
 generalize De.step (De.step (De.step (De.step s Na.vOpen) (Na.vOid p1)) (Na.vTxt p2)) Na.vClose=s4 at *
 generalize De.step (De.step (De.step s Na.vOpen) (Na.vOid p1)) (Na.vTxt p2)=s3 at *
 generalize De.step (De.step s Na.vOpen) (Na.vOid p1)=s2 at *
 generalize De.step s Na.vOpen=s1 at *
 clear h hA hg h1 h2 g1 g2 g3 hw1 hga hb1 hpp hn1 hn2
 go_enter Tryz.func62,Tryz.ntmps62
 go_wp2_with (first
  |(go_at_call 24;(try rw[←HW1.out]);(with_reducible refine HOp.out.mono ?_);rintro e w2 hp;have he:=hp.1;subst he;have R2:=hid (R1.out.call hp);have b2:=(R2.out.kept (blk_lt HB1.out) HNf.out).trans HB1.out;have d0:=cell_blk b2 0 rfl;clear hp b2)
  |(go_at_call 63;(with_reducible refine (HOi.out _ _ R2.out.wrt).mono ?_);rintro e w3 hp;have he:=hp.1;subst he;have R3:=hid (R2.out.call hp);have b3:=(R3.out.kept (blk_lt HB1.out) HNf.out).trans HB1.out;have d1:=cell_blk b3 1 rfl;clear hp b3)
  |(go_at_call 64;(with_reducible refine (HTx.out _ _ R3.out.wrt).mono ?_);rintro e w4 hp;have he:=hp.1;subst he;have R4:=hid (R3.out.call hp);clear hp)
  |(go_at_call 29;(with_reducible refine (HCl.out _ _ R4.out.wrt).mono ?_);rintro e w5 hp;have he:=hp.1;subst he;have R5:=hid (R4.out.call hp);clear hp))
 go_returns
 exact R5.out.lift HX.out.own HX.out.base HG1.out
theorem GoodW.mono {m n:Nat} {s:De.St} (h:GoodW m s) (hm:m≤n):GoodW n s:=⟨h.lim.mono hm,h.good⟩
theorem stP_good {m:Nat} {s:De.St} (l:List Na.Pr) (h:GoodW m s):∀ (j:Nat),j≤l.length→GoodW (m+1+4*j) (stP s l j)
 |0,_=>by rw[stP_zero];exact h.step Na.vOpen rfl (by simp[Na.vOpen,De.none0])
 |j+1,hj=>by
  rw[stP_succ (by omega)]
  have h0:=stP_good l h j (by omega)
  have h4:=(((h0.step Na.vOpen rfl (by simp[Na.vOpen,De.none0])).step (Na.vOid (l.getD j (Na.e0,Na.e0)).1) rfl (fun x hx=>strL_lt _ x hx)).step (Na.vTxt (l.getD j (Na.e0,Na.e0)).2) rfl (fun x hx=>strL_lt _ x hx)).step Na.vClose rfl (by simp[Na.vClose,De.none0])
  exact h4.mono (by omega)
theorem nrows_any {A:Nat→Addr} {W0 w:World} {F:Nat→Prop} {b m:Nat} {s:De.St} (l:List Na.Pr) (a:Option Addr) (n c:Nat) (h:PrW A W0 F b s w) (hA:BodiesOf A W0) (hg:GoodW m s) (hm:m≤800) (hgood:∀ p∈l,Na.GoodP p) (h3:l.length≤3) (hn:l.length=n) (hB:∀ W,Upto F w W→Prts W (.slice a n c) l) :
  Calls Tryz.prog 61 #[.pointer (some ⟨b,0,none⟩),.int .i64 48,.slice a n c,.func (.func 62) #[] #[]] w fun e w'=>PrPost A W0 F b w w' (Na.putRow s l) e:=by
 have hrow:Na.putRow s l=De.step (stP s l n) { De.none0 with kind:=2 }:=by unfold Na.putRow stP;rw[←hn,List.take_length];rfl
 rw[hrow]
 refine prRows_part h hA.errs 48 l a n c hn (by omega) hB 62 #[] (stP s l) (fun _ _=>by simp[go_sem]) ?_ (fun j F' W hj hW=>?_) (fun F' W hW=>?_)
 ·rw[stP_zero]
  unfold De.step
  by_cases he:s.e=0
  ·rw[if_neg (by omega),if_pos he,if_pos (by rfl)];rfl
  ·rw[if_pos he,if_neg he]
 ·have hsz:=part_sz hgood (j:=j) (by omega)
  rw[stP_succ (by omega)]
  exact nput1_any _ hW hA (stP_good l hg j (by omega)) (by omega) hsz.1 hsz.2
 ·have hgd:=stP_good l hg n (by omega)
  exact prClose_any hW hA.errs (hgd.lim.mono (by omega)) (fun p hp=>(hgd.good.op p hp).1) _ rfl
theorem nput_any {A:Nat→Addr} {W0 w:World} {F:Nat→Prop} {b m:Nat} {s:De.St} (x:Na.Sb) (h:PrW A W0 F b s w) (hA:BodiesOf A W0) (hWd:Words W0) (hg:GoodW m s) (hm:m≤800) (h1:x.sp.size≤2000) (h2:x.nm.size≤2000) :
  Calls Tryz.prog 26 #[.pointer (some ⟨b,0,none⟩),Na.val x] w fun e w'=>PrPost A W0 F b w w' (Na.putS s x) e:=by
 have hI:(Tryz.prog.info? 23).map (·.size)=some 3:=by kernel_rfl
 have hv:Na.val x=.agg #[.int .i64 x.k,.string x.sp,.string x.nm]:=rfl
 obtain ⟨w1,hw1⟩:∃ w1,w1=w.alloc (.cells #[.int .i64 x.k,.string x.sp,.string x.nm] 23):=⟨_,rfl⟩
 have hga:w.grownBy w1 none:=by rw[hw1];exact World.grownBy_alloc _ _ _
 have hb1:w1.heap[w.heap.size]?=some (.cells #[.int .i64 x.k,.string x.sp,.string x.nm] 23 (0,0)):=by rw[hw1];exact alloc_at _ _
 have HW1:=hid hw1
 have HB1:=hid hb1
 have HG1:=hid hga
 have HX:=hid h
 have R1:=hid (RunW.start (h.still hga))
 have hb0:=h.base
 by_cases hr:Na.right x=true
 ·have hgood:=Na.parts_good hr
  have h3:=Na.parts_le3 x
  have HPa:Hid (Calls Tryz.prog 8 #[Na.val x] w1 fun e w'=>∃ v,e=.returned (.tuple #[v,.nilIface])∧w1.grownBy w' none∧w'.ownsRow w1.heap.size 88 2 v (Na.parts x).length (cellsP (Na.parts x))):=hid (parts9_ok x h1 h2 hr w1 (hWd.grown (grown_trans hb0 hga)))
  have hps:Na.putS s x=Na.putRow s (Na.parts x):=by unfold Na.putS;rw[if_pos hr]
  rw[hps]
  have HRo:=hid (fun a n c W (hW:w1.grownBy W none) (hn:(Na.parts x).length=n) (ho:W.ownsRow w1.heap.size 88 2 (.slice a n c) n (cellsP (Na.parts x)))=>nrows_any (Na.parts x) a n c ((h.still hga).still hW) hA hg hm hgood h3 hn (fun W' hu=>by
   have ho2:=own_upto ho hu (fun k hk hf=>by
    have q1:=(ho.lt k hk).1
    have q2:=(h.own k hf).2
    have q3:=hga.size
    omega)
   have:=Prts.own ho2 hn.symm
   exact this))
  rw[hv] at HPa ⊢
  generalize Na.putRow s (Na.parts x)=s9 at *
  generalize Na.parts x=l at *
  generalize x.k=k at *
  generalize x.sp=sp at *
  generalize x.nm=nm at *
  clear h hA hWd hg h1 h2 hr hgood h3 hps hv hw1 hga hb1 hb0
  go_enter Tryz.func26,Tryz.ntmps26
  go_wp2_with (first
   |(rw[←HW1.out];refine wpList_load_row (by rfl) 23 (.tmp 3) (by rfl) w.heap.size (by rfl) 23 #[.int .i64 k,.string sp,.string nm] (0,0) _ HB1.out Tryz.underlying23 rfl hI ?_)
   |(go_at_call 8;(try rw[←HW1.out]);(with_reducible refine HPa.out.mono ?_);rintro e w2 ⟨v2,rfl,hg2,ho2⟩;have HO2:=hid ho2;have G2:=hid hg2;obtain ⟨pa,pg,pc,rfl,-⟩:=own_formN ho2;clear ho2 hg2)
   |(go_at_call 61;(with_reducible refine (HRo.out _ _ _ _ G2.out rfl HO2.out).mono ?_);rintro e w3 hp;have he:=hp.1;subst he;have R3:=hid ((R1.out.still G2.out).call hp);clear hp))
  go_returns
  exact R3.out.lift HX.out.own HX.out.base HG1.out
 ·have hr':Na.right x=false:=by cases hx:Na.right x with
   |false=>rfl
   |true=>exact absurd hx hr
  have HPa:Hid (Calls Tryz.prog 8 #[Na.val x] w1 fun e w'=>e=.returned (.tuple #[.slice none 0 0,errV A 9])∧w1.grownBy w' none):=hid (parts9_no A x h1 h2 hr' w1 (nameErr_of (hA.errs.grown (grown_trans hb0 hga))))
  have hps:Na.putS s x=De.fail s 9:=by unfold Na.putS;rw[if_neg hr]
  rw[hps]
  have HFl:=hid (fun F' W (h:PrW A W0 F' b s W)=>prFail_any h 9 (by decide))
  rw[hv] at HPa ⊢
  generalize De.fail s 9=s9 at *
  generalize x.k=k at *
  generalize x.sp=sp at *
  generalize x.nm=nm at *
  clear h hA hWd hg h1 h2 hr hr' hps hv hw1 hga hb1 hb0
  go_enter Tryz.func26,Tryz.ntmps26
  go_wp2_with (first
   |(rw[←HW1.out];refine wpList_load_row (by rfl) 23 (.tmp 3) (by rfl) w.heap.size (by rfl) 23 #[.int .i64 k,.string sp,.string nm] (0,0) _ HB1.out Tryz.underlying23 rfl hI ?_)
   |(go_at_call 8;(try rw[←HW1.out]);(with_reducible refine HPa.out.mono ?_);rintro e w2 ⟨rfl,hg2⟩;have R2:=hid (R1.out.still hg2);clear hg2)
   |(go_at_call 54;(with_reducible refine (HFl.out _ _ R2.out.wrt).mono ?_);rintro e w3 hp;have he:=hp.1;subst he;have R3:=hid (R2.out.call hp);clear hp))
  go_returns
  exact R3.out.lift HX.out.own HX.out.base HG1.out
theorem BodiesOf.up9 {A:Nat→Addr} {w w':World} (h:BodiesOf A w) (hg:w.grownBy w' none):BodiesOf A w' where
 errs:=h.errs.grown hg
 texts:=fun s m W h1 h2 h3=>h.texts s m W h1 h2 (grown_trans hg h3)
 oid:=fun s W h1 h2=>h.oid s W h1 (grown_trans hg h2)
theorem GoodW.zero:GoodW 0 De.St.zero:=⟨Lim.zero,De.good_zero⟩
theorem putS_good (x:Na.Sb):GoodW 40 (Na.putS De.St.zero x):=by
 unfold Na.putS
 by_cases h:Na.right x=true
 ·rw[if_pos h]
  have h3:=Na.parts_le3 x
  have h1:=stP_good (Na.parts x) GoodW.zero (Na.parts x).length (Nat.le_refl _)
  have h2:Na.putRow De.St.zero (Na.parts x)=De.step (stP De.St.zero (Na.parts x) (Na.parts x).length) Na.vClose:=by unfold Na.putRow stP;rw[List.take_length]
  rw[h2]
  exact (h1.step Na.vClose rfl (by simp[Na.vClose,De.none0])).mono (by omega)
 ·rw[if_neg h]
  unfold De.fail
  split
  ·exact ⟨(Lim.zero.err _).mono (by omega),De.good_err De.good_zero _⟩
  ·exact GoodW.zero.mono (by omega)
theorem nbytes_any {A:Nat→Addr} (x:Na.Sb) (w:World) (hA:BodiesOf A w) (hWd:Words w) (h1:x.sp.size≤2000) (h2:x.nm.size≤2000) :
  Calls Tryz.prog 10 #[Na.val x] w fun e w'=>PDnPost A w w' (De.done (Na.putS De.St.zero x)) e:=by
 have hI:(Tryz.prog.info? 23).map (·.size)=some 3:=by kernel_rfl
 have hv:Na.val x=.agg #[.int .i64 x.k,.string x.sp,.string x.nm]:=rfl
 obtain ⟨w1,hw1⟩:∃ w1,w1=w.alloc (.cells #[.int .i64 x.k,.string x.sp,.string x.nm] 23):=⟨_,rfl⟩
 have hg1:w.grownBy w1 none:=by rw[hw1];exact World.grownBy_alloc _ _ _
 have hs1:w1.heap.size=w.heap.size+1:=by rw[hw1];exact alloc_size _ _
 have hb1:w1.heap[w.heap.size]?=some (.cells #[.int .i64 x.k,.string x.sp,.string x.nm] 23 (0,0)):=by rw[hw1];exact alloc_at _ _
 obtain ⟨w2,hw2⟩:∃ w2,w2=w1.alloc (.cells #[.slice none 0 0,.slice none 0 0,.nilIface] 55):=⟨_,rfl⟩
 have hg2:w1.grownBy w2 none:=by rw[hw2];exact World.grownBy_alloc _ _ _
 have HB2:=hid ((hg2.block w.heap.size (blk_lt hb1) (by simp)).trans hb1)
 have hW0:PrW A w1 (fun k=>k=w1.heap.size) w1.heap.size De.St.zero w2:=by rw[hw2];exact PrW.new (grown_refl w1 none)
 rw[hs1] at hW0
 have hA1:=hA.up9 hg1
 have hgd:=putS_good x
 have HP:=hid (nput_any x hW0 hA1 (hWd.grown hg1) GoodW.zero (by omega) h1 h2)
 have HD:Hid (∀ F W,PrW A w1 F (w.heap.size+1) (Na.putS De.St.zero x) W→Calls Tryz.prog 30 #[.pointer (some ⟨w.heap.size+1,0,none⟩)] W fun e w'=>w.grownBy w' none∧PDnPost A W w' (De.done (Na.putS De.St.zero x)) e):=hid (fun F W h=>(prDone_any h hA1.errs (hgd.lim.mono (by omega))).mono (fun e w' hp=>⟨grown_trans (grown_trans hg1 h.base) hp.1,hp⟩))
 have HW2:Hid (w2=(w.alloc (.cells #[.int .i64 x.k,.string x.sp,.string x.nm] 23)).alloc (.cells #[.slice none 0 0,.slice none 0 0,.nilIface] 55)):=hid (by rw[hw2,hw1])
 rw[hv] at HP ⊢
 obtain ⟨k,hk'⟩:∃ k,k=x.k:=⟨_,rfl⟩
 obtain ⟨sp,hsp⟩:∃ sp,sp=x.sp:=⟨_,rfl⟩
 obtain ⟨nm,hnm⟩:∃ nm,nm=x.nm:=⟨_,rfl⟩
 rw[←hk',←hsp,←hnm] at HP HB2 HW2 ⊢
 generalize hT:Na.putS De.St.zero x=T at *
 clear hv hw1 hg1 hs1 hb1 hw2 hg2 hW0 hA1 hgd hA hWd h1 h2 hk' hsp hnm hT
 cases hd:De.done T with
 |ok L =>
  rw[hd] at HD
  obtain ⟨n,hn⟩:∃ n,n=L.length:=⟨_,rfl⟩
  have HNn:=hid hn
  clear hd hn
  go_enter Tryz.func10,Tryz.ntmps10
  go_wp2_with (first
   |(rw[←HW2.out];refine wpList_load_row (by rfl) 23 (.tmp 1) (by rfl) w.heap.size (by rfl) 23 #[.int .i64 k,.string sp,.string nm] (0,0) _ HB2.out Tryz.underlying23 rfl hI ?_)
   |(go_at_call 26;(try rw[←HW2.out]);(with_reducible refine HP.out.mono ?_);rintro e w3 hp;have he:=hp.1;subst he;have P3:=hid hp.2.2;clear hp)
   |(go_at_call 30;(with_reducible refine (HD.out _ _ P3.out).mono ?_);rintro e w4 ⟨hg4,-,a4,c4,rfl,hb4,hw4⟩;have G4:=hid hg4;have B4:=hid (And.intro hb4 hw4);clear hg4 hb4 hw4))
  go_ret2
  exact ⟨G4.out,a4,c4,rfl,B4.out.1,B4.out.2⟩
 |error k9 =>
  rw[hd] at HD
  clear hd
  go_enter Tryz.func10,Tryz.ntmps10
  go_wp2_with (first
   |(rw[←HW2.out];refine wpList_load_row (by rfl) 23 (.tmp 1) (by rfl) w.heap.size (by rfl) 23 #[.int .i64 k,.string sp,.string nm] (0,0) _ HB2.out Tryz.underlying23 rfl hI ?_)
   |(go_at_call 26;(try rw[←HW2.out]);(with_reducible refine HP.out.mono ?_);rintro e w3 hp;have he:=hp.1;subst he;have P3:=hid hp.2.2;clear hp)
   |(go_at_call 30;(with_reducible refine (HD.out _ _ P3.out).mono ?_);rintro e w4 ⟨hg4,-,rfl⟩;have G4:=hid hg4;clear hg4))
  go_ret2
  exact ⟨G4.out,rfl⟩
theorem oid_short {o:ByteArray} (h:o=Na.o1∨o=Na.o2∨o=Na.o3):(De.elemOf (Na.vOid o)).length≤10:=by
 rcases h with rfl|rfl|rfl <;> decide +kernel
theorem pelem_short {p:Na.Pr} (h:Na.GoodP p) (ho:p.1=Na.o1∨p.1=Na.o2∨p.1=Na.o3):(Na.pelem p).length≤100:=by
 have h1:=oid_short ho
 have h2:=h.lens.2.1
 unfold Na.pelem
 rw[Tl.elem_len,List.length_append]
 have m3:=Tl.more_le ((De.elemOf (Na.vOid p.1)).length+(De.elemOf (Na.vTxt p.2)).length)
 omega
theorem flat100:∀ (l:List (List Nat)),(∀ x∈l,x.length≤100)→l.flatten.length≤100*l.length
 |[],_=>by simp
 |x :: r,h=>by
  have:=flat100 r (fun y hy=>h y (by simp[hy]))
  have:=h x (by simp)
  rw[List.flatten_cons,List.length_append,List.length_cons];omega
theorem bytes_short {x:Na.Sb} (h:Na.right x=true):(Na.bytesOf (Na.parts x)).length≤2000:=by
 have hg:=Na.parts_good h
 have h3:=Na.parts_le3 x
 have hf:=flat100 ((Na.parts x).map Na.pelem) (fun y hy=>by
  obtain ⟨p,hp,rfl⟩:=List.mem_map.1 hy
  refine pelem_short (hg p hp) ?_
  unfold Na.parts at hp
  split at hp
  ·simp at hp
   rcases hp with rfl|rfl
   ·exact .inl rfl
   ·exact .inr (.inr rfl)
  ·simp at hp
   rcases hp with rfl|rfl|rfl
   ·exact .inl rfl
   ·exact .inr (.inl rfl)
   ·exact .inr (.inr rfl))
 rw[List.length_map] at hf
 unfold Na.bytesOf
 rw[Tl.elem_len]
 have:=Tl.more_le ((Na.parts x).map Na.pelem).flatten.length
 omega
theorem ntLt {x:Na.Sb} (hr:Na.right x=true):∀ y∈Na.bytesOf (Na.parts x),y<256:=by
 unfold Na.bytesOf
 refine Tl.elem_lt (by decide) (fun y hy=>?_)
 obtain ⟨q,hq,hyq⟩:=List.mem_flatten.1 hy
 obtain ⟨p,hp,rfl⟩:=List.mem_map.1 hq
 have hg:=Na.parts_good hr p hp
 obtain ⟨l,_,_,h3⟩:=Na.oid_body hg.oid
 obtain ⟨_,_,k3⟩:=Na.txt_len hg.txt
 unfold Na.pelem at hyq
 rw[h3,k3] at hyq
 exact Tl.elem_lt (by decide) (fun z hz=>by
  rcases List.mem_append.1 hz with hz|hz
  ·exact Tl.elem_lt (by decide) (De.oput_lt l) z hz
  ·exact Tl.elem_lt (by decide) (strL_lt p.2) z hz) y hyq
theorem nt_eq (k:Int) (sp nm:ByteArray) (x y:Operand) (w:World):(do eqGuard .eql 23 x y (.agg #[.int .i64 k,.string sp,.string nm]) (.agg #[.int .i64 k,.string sp,.string nm]);binOp .eql 23 (.agg #[.int .i64 k,.string sp,.string nm]) (.agg #[.int .i64 k,.string sp,.string nm]):Sem Value).run Tryz.prog w=.ok (.bool true) w:=by
 simp[go_sem,eqGuard]
theorem text_sz {x:Na.Sb} (h1:x.sp.size≤200) (h2:x.nm.size≤200):(Na.text x).size≤900:=by
 unfold Na.text
 have:=word_size x.k
 split
 ·simp only[ByteArray.size_append]
  show (Na.word x.k).size+1+x.nm.size≤900
  omega
 ·simp only[ByteArray.size_append]
  show (Na.word x.k).size+1+(x.sp.size+1+x.nm.size)≤900
  omega
theorem namesTell_right (A:Nat→Addr) (x:Na.Sb) (w:World) (hk:i64 x.k) (hA:BodiesOf A w) (hR:RdN A w) (hWd:Words w) (h1:x.sp.size≤200) (h2:x.nm.size≤200) (hr:Na.right x=true) :
  Calls Tryz.prog 3 #[Na.val x] w fun e w'=>e=.returned (.bool true)∧w.grownBy w' none:=by
 have hI:(Tryz.prog.info? 23).map (·.size)=some 3:=by kernel_rfl
 have HI:=hid hI
 have hv:Na.val x=.agg #[.int .i64 x.k,.string x.sp,.string x.nm]:=rfl
 obtain ⟨w1,hw1⟩:∃ w1,w1=w.alloc (.cells #[.int .i64 x.k,.string x.sp,.string x.nm] 23):=⟨_,rfl⟩
 have hg1:w.grownBy w1 none:=by rw[hw1];exact World.grownBy_alloc _ _ _
 have hb1:w1.heap[w.heap.size]?=some (.cells #[.int .i64 x.k,.string x.sp,.string x.nm] 23 (0,0)):=by rw[hw1];exact alloc_at _ _
 have HW1:=hid hw1
 have HG1:=hid hg1
 have G1:Hid (w1.grownBy w1 none):=hid (grown_refl _ _)
 have HBx:=hid (fun W (hW:w1.grownBy W none)=>hold_blk hb1 hW)
 have hA1:=hA.up9 hg1
 have hR1:=hR.up hg1
 have hW1:=hWd.grown hg1
 have hl:Na.lng x=false:=by unfold Na.lng;simp;omega
 have hgood:=Na.parts_good hr
 have h3:=Na.parts_le3 x
 have hdone:=Na.putS_done hr
 have hshort:=bytes_short hr
 have hback:=Na.getS_back hr
 have h8:∀ y∈Na.bytesOf (Na.parts x),y<256:=fun y hy=>ntLt hr y hy
 have HAl:=hid (fun W (hW:w1.grownBy W none)=>alive9_any W (hW1.grown hW))
 have HLg:=hid (fun W=>long9_any x W)
 have HPa:=hid (fun W (hW:w1.grownBy W none)=>parts9_ok x (by omega) (by omega) hr W (hW1.grown hW))
 have HTe:=hid (fun W (hW:w1.grownBy W none)=>text_ok x (by omega) (by omega) hr W (hW1.grown hW))
 have HBy:=hid (fun W (hW:w1.grownBy W none)=>nbytes_any x W (hA1.up9 hW) (hW1.grown hW) (by omega) (by omega))
 have HR1:Hid (∀ W,Calls Tryz.prog 11 #[Na.val x] W fun e w'=>∃ v,e=.returned v∧W.grownBy w' none∧isV (.bool true) v w'):=hid (fun W=>(right_any x (by omega) (by omega) W).mono (fun e w' ⟨e1,e2⟩=>⟨_,e1,e2,by rw[hr];rfl⟩))
 have HR3:Hid (∀ W,Calls Tryz.prog 12 #[Na.val x] W fun e w'=>e=.returned (.bool true)∧W.grownBy w' none):=hid (fun W=>by have:=refRight9_any x hk (by omega) (by omega) W;rw[hr] at this;exact this)
 have HR2:Hid (∀ W,Calls Tryz.prog 12 #[Na.val x] W fun e w'=>∃ v,e=.returned v∧W.grownBy w' none∧isV (.bool true) v w'):=hid (fun W=>(HR3.out W).mono (fun e w' ⟨e1,e2⟩=>⟨_,e1,e2,rfl⟩))
 have HOf:Hid (∀ W v,w1.grownBy W none→Prts W v (Na.parts x)→Calls Tryz.prog 14 #[v] W fun e w'=>e=.returned (.tuple #[Na.val x,.nilIface])∧W.grownBy w' none):=hid (fun W v hW hP=>by
  have:=of9_any A v (Na.parts x) W hP (by omega) (fun p hp=>by have:=(Na.txt_len (hgood p hp).txt).1;rw[strL_len] at this;omega) (hW1.grown hW) (nameErr_of (hA1.errs.grown hW))
  unfold OfV at this
  rw[Na.s0_parts hr,if_pos ⟨hr,rfl⟩] at this
  exact this)
 have HPs:Hid (∀ W,w1.grownBy W none→Calls Tryz.prog 15 #[.string (Na.text x)] W fun e w'=>e=.returned (.tuple #[Na.val x,.nilIface])∧W.grownBy w' none):=hid (fun W hW=>by
  have:=parse9_any A (Na.text x) (text_sz h1 h2) W (hW1.grown hW) (nameErr_of (hA1.errs.grown hW))
  rw[Na.p0_text hr,if_pos hr] at this
  exact this)
 have HRd:Hid (∀ W a c,w1.grownBy W none→Bytes W (.slice a (Na.bytesOf (Na.parts x)).length c) (Na.bytesOf (Na.parts x))→Whole0 (.slice a (Na.bytesOf (Na.parts x)).length c)→Calls Tryz.prog 16 #[.slice a (Na.bytesOf (Na.parts x)).length c] W fun e w'=>e=.returned (.tuple #[Na.val x,.nilIface])∧W.grownBy w' none):=hid (fun W a c hW hb h0=>by
  have:=nread_any A a _ c (Na.bytesOf (Na.parts x)) W hb h0 rfl hshort (hR1.up hW) (hW1.grown hW)
  unfold readV at this
  rw[hback,if_pos (by rfl)] at this
  exact this)
 have HPd:Hid (∀ W,Calls Tryz.prog 18 #[Na.val x] W fun e w'=>∃ v,e=.returned v∧W.grownBy w' none∧isPr (Na.parts x) v w'):=hid (fun W=>(refParts9_any x hr W).mono (fun e w' ⟨v,e1,e2,e3⟩=>⟨v,e1,e2,Prts.own e3 rfl⟩))
 have HSm:Hid (∀ W v u,Prts W v (Na.parts x)→isPr (Na.parts x) u W→Calls Tryz.prog 17 #[v,u] W fun e w'=>∃ v,e=.returned v∧W.grownBy w' none∧isV (.bool true) v w'):=hid (fun W v u hP hu=>(sameParts_any v u (Na.parts x) W hP hu (by omega)).mono (fun e w' ⟨e1,e2⟩=>⟨_,e1,e2,rfl⟩))
 have HTd:Hid (∀ W,Calls Tryz.prog 19 #[Na.val x] W fun e w'=>∃ v,e=.returned v∧W.grownBy w' none∧isV (.string (Na.text x)) v w'):=hid (fun W=>(refText9_any x hr (by omega) (by omega) W).mono (fun e w' ⟨e1,e2⟩=>⟨_,e1,e2,rfl⟩))
 have HBd:Hid (∀ W,Calls Tryz.prog 20 #[Na.val x] W fun e w'=>∃ v,e=.returned v∧W.grownBy w' none∧isB (Na.bytesOf (Na.parts x)) v w'):=hid (fun W=>refNbytes_ok x _ W hr hdone h8 hk (by omega) (by omega))
 have HCv:Hid (∀ W v,Bytes W v (Na.bytesOf (Na.parts x))→(convert 33 9 v).run Tryz.prog W=.ok (.string (strOf (Na.bytesOf (Na.parts x)))) W):=hid (fun W v h=>conv_bytes h _ 5 _ Tryz.underlying33 Tryz.underlying5 Tryz.underlying9)
 rw[hdone] at HBy
 rw[hl] at HLg
 rw[hv] at HLg HPa HTe HBy HR1 HR2 HR3 HOf HPs HRd HPd HTd HBd ⊢
 generalize Na.bytesOf (Na.parts x)=L at *
 generalize Na.parts x=l at *
 generalize Na.text x=T at *
 generalize x.k=k at *
 generalize x.sp=sp at *
 generalize x.nm=nm at *
 obtain ⟨n,hn⟩:∃ n,n=L.length:=⟨_,rfl⟩
 clear hk hA hR hWd h1 h2 hr hI hv hw1 hg1 hb1 hA1 hR1 hW1 hl hgood h3 hdone hshort hback h8
 go_enter Tryz.func3,Tryz.ntmps3
 go_wp2_with (first
  |(go_at_call 6;(try rw[←HW1.out]);refine (HAl.out _ (grown_refl _ _)).mono ?_;rintro e w2 ⟨rfl,hg2⟩;have G2:=hid hg2;clear hg2)
  |(refine wpList_load_row (by rfl) 23 (.tmp 1) (by rfl) w.heap.size (by rfl) 23 #[.int .i64 k,.string sp,.string nm] (0,0) _ (by first|exact HBx.out _ G9.out|exact HBx.out _ G8.out|exact HBx.out _ G7.out|exact HBx.out _ G6.out|exact HBx.out _ G5.out|exact HBx.out _ G4.out|exact HBx.out _ G3.out|exact HBx.out _ G2.out|exact HBx.out _ G1.out) Tryz.underlying23 rfl HI.out ?_)
  |(go_at_call 7;refine (HLg.out _).mono ?_;rintro e w3 ⟨rfl,hg3⟩;have G3:=hid (grown_trans G2.out hg3);clear hg3)
  |(go_at_call 8;refine (HPa.out _ G3.out).mono ?_;rintro e w4 ⟨v4,rfl,hg4,ho4⟩;have G4:=hid (grown_trans G3.out hg4);have PR4:=hid (Prts.own ho4 rfl);obtain ⟨pa,pg,pc,rfl,-⟩:=own_formN ho4;clear hg4 ho4)
  |(go_at_call 9;refine (HTe.out _ G4.out).mono ?_;rintro e w5 ⟨rfl,hg5⟩;have G5:=hid (grown_trans G4.out hg5);have P5:=hid (PR4.out.grown hg5);clear hg5)
  |(go_at_call 10;refine (HBy.out _ G5.out).mono ?_;rintro e w6 ⟨hg6,a6,c6,rfl,hb6,hw6⟩;have G6:=hid (grown_trans G5.out hg6);have P6:=hid (P5.out.grown hg6);have B6:=hid hb6;have W6:=hid hw6;clear hg6 hb6 hw6))
 refine nt_region8 _ w.heap.size true #[.int .i64 k,.string sp,.string nm] w6 _ _ rfl rfl (fun W hW=>HR1.out W) (fun W hW=>HR2.out W) (fun W hW=>HBx.out _ (grown_trans G6.out hW)) HI.out (grown_drewN (grown_refl _ _) 1) (fun us w7 hg7=>?_)
 simp only[fill_cons,fill_nil,Act.put,List.setIfInBounds_toArray,List.set_cons_succ,List.set_cons_zero]
 have G7:=hid (grown_trans G6.out hg7)
 have H67:=hid hg7
 clear hg7
 go_wp2_with (first
  |(refine wpList_load_row (by rfl) 23 (.tmp 1) (by rfl) w.heap.size (by rfl) 23 #[.int .i64 k,.string sp,.string nm] (0,0) _ (by first|exact HBx.out _ G9.out|exact HBx.out _ G8.out|exact HBx.out _ G7.out|exact HBx.out _ G6.out|exact HBx.out _ G5.out|exact HBx.out _ G4.out|exact HBx.out _ G3.out|exact HBx.out _ G2.out|exact HBx.out _ G1.out) Tryz.underlying23 rfl HI.out ?_)
  |(go_at_call 12;refine (HR3.out _).mono ?_;rintro e w8 ⟨rfl,hg8⟩;have G8:=hid (grown_trans G7.out hg8);have H68:=hid (grown_trans H67.out hg8);clear hg8)
  |(go_at_call 14;refine (HOf.out _ _ G8.out (P6.out.grown H68.out)).mono ?_;rintro e w9 ⟨rfl,hg9⟩;have H69:=hid (grown_trans (grown_trans H68.out hg9) (World.grownBy_alloc w9 (.cells #[.int .i64 k,.string sp,.string nm] 23) none));have R9:=hid (alloc_at w9 (.cells #[.int .i64 k,.string sp,.string nm] 23));clear hg9)
  |(go_at_call 15;refine (HPs.out _ (grown_trans G6.out H69.out)).mono ?_;rintro e w10 ⟨rfl,hg10⟩;have R9b:=hid (alloc_keep (o:=.cells #[.int .i64 k,.string sp,.string nm] 23) (hold_blk R9.out hg10));have H610:=hid (grown_trans (grown_trans H69.out hg10) (World.grownBy_alloc w10 (.cells #[.int .i64 k,.string sp,.string nm] 23) none));have R10:=hid (alloc_at w10 (.cells #[.int .i64 k,.string sp,.string nm] 23));clear hg10)
  |(go_at_call 16;refine (HRd.out _ _ _ (grown_trans G6.out H610.out) (B6.out.grown H610.out) W6.out).mono ?_;rintro e w11 ⟨rfl,hg11⟩;have R9c:=hid (alloc_keep (o:=.cells #[.int .i64 k,.string sp,.string nm] 23) (hold_blk R9b.out hg11));have R10c:=hid (alloc_keep (o:=.cells #[.int .i64 k,.string sp,.string nm] 23) (hold_blk R10.out hg11));have R11:=hid (alloc_at w11 (.cells #[.int .i64 k,.string sp,.string nm] 23));have H612:=hid (grown_trans (grown_trans H610.out hg11) (World.grownBy_alloc w11 (.cells #[.int .i64 k,.string sp,.string nm] 23) none));clear hg11))
 obtain ⟨w12,hw12⟩:∃ w12,w12=w11.alloc (.cells #[.int .i64 k,.string sp,.string nm] 23):=⟨_,rfl⟩
 rw[←hw12] at R9c R10c R11 H612 ⊢
 have hEq:∀ x y w,(do eqGuard .eql 23 x y (.agg #[.int .i64 k,.string sp,.string nm]) (.agg #[.int .i64 k,.string sp,.string nm]);binOp .eql 23 (.agg #[.int .i64 k,.string sp,.string nm]) (.agg #[.int .i64 k,.string sp,.string nm]):Sem Value).run Tryz.prog w=.ok (.bool true) w:=nt_eq k sp nm
 refine nt_region15 _ w.heap.size w9.heap.size w10.heap.size w11.heap.size _ pc _ c6 pa a6 T (strOf L) L l #[.int .i64 k,.string sp,.string nm] w12 _ _ rfl rfl rfl rfl rfl rfl rfl rfl rfl rfl rfl rfl rfl rfl
  (fun W hW=>HPd.out W) (fun W u hW hu=>HSm.out W _ _ (P6.out.grown (grown_trans H612.out hW)) hu) (fun W hW=>HTd.out W) (fun W hW=>HBd.out W) (fun W hW=>HCv.out W _ (B6.out.grown (grown_trans H612.out hW))) (fun W v h=>HCv.out W v h) (fun W hW=>HBx.out _ (grown_trans (grown_trans G6.out H612.out) hW)) (fun W hW=>hold_blk R9c.out hW) (fun W hW=>hold_blk R10c.out hW) (fun W hW=>hold_blk R11.out hW) HI.out hEq (grown_drewN (grown_refl _ _) 1) (fun us w13 hg13=>?_)
 simp only[fill_cons,fill_nil,Act.put,List.setIfInBounds_toArray,List.set_cons_succ,List.set_cons_zero]
 have G13:=hid hg13
 clear hg13
 go_wp2
 go_ret
 exact ⟨rfl,grown_trans HG1.out (grown_trans (grown_trans G6.out H612.out) G13.out)⟩
theorem namesTell_wrong (A:Nat→Addr) (x:Na.Sb) (w:World) (hk:i64 x.k) (hA:BodiesOf A w) (hWd:Words w) (h1:x.sp.size≤200) (h2:x.nm.size≤200) (hr:Na.right x=false) :
  Calls Tryz.prog 3 #[Na.val x] w fun e w'=>e=.returned (.bool true)∧w.grownBy w' none:=by
 have hI:(Tryz.prog.info? 23).map (·.size)=some 3:=by kernel_rfl
 have HI:=hid hI
 have hv:Na.val x=.agg #[.int .i64 x.k,.string x.sp,.string x.nm]:=rfl
 obtain ⟨w1,hw1⟩:∃ w1,w1=w.alloc (.cells #[.int .i64 x.k,.string x.sp,.string x.nm] 23):=⟨_,rfl⟩
 have hg1:w.grownBy w1 none:=by rw[hw1];exact World.grownBy_alloc _ _ _
 have hb1:w1.heap[w.heap.size]?=some (.cells #[.int .i64 x.k,.string x.sp,.string x.nm] 23 (0,0)):=by rw[hw1];exact alloc_at _ _
 have HW1:=hid hw1
 have HG1:=hid hg1
 have G1:Hid (w1.grownBy w1 none):=hid (grown_refl _ _)
 have HBx:=hid (fun W (hW:w1.grownBy W none)=>hold_blk hb1 hW)
 have hA1:=hA.up9 hg1
 have hW1:=hWd.grown hg1
 have hl:Na.lng x=false:=by unfold Na.lng;simp;omega
 have hdone:De.done (Na.putS De.St.zero x)=.error 9:=by
  unfold Na.putS
  rw[if_neg (by rw[hr];decide)]
  rfl
 have HAl:=hid (fun W (hW:w1.grownBy W none)=>alive9_any W (hW1.grown hW))
 have HLg:=hid (fun W=>long9_any x W)
 have HPa:=hid (fun W (hW:w1.grownBy W none)=>parts9_no A x (by omega) (by omega) hr W (nameErr_of (hA1.errs.grown hW)))
 have HTe:=hid (fun W (hW:w1.grownBy W none)=>text_no A x (by omega) (by omega) hr W (nameErr_of (hA1.errs.grown hW)))
 have HBy:=hid (fun W (hW:w1.grownBy W none)=>nbytes_any x W (hA1.up9 hW) (hW1.grown hW) (by omega) (by omega))
 have HR1:Hid (∀ W,Calls Tryz.prog 11 #[Na.val x] W fun e w'=>∃ v,e=.returned v∧W.grownBy w' none∧isV (.bool false) v w'):=hid (fun W=>(right_any x (by omega) (by omega) W).mono (fun e w' ⟨e1,e2⟩=>⟨_,e1,e2,by rw[hr];rfl⟩))
 have HR3:Hid (∀ W,Calls Tryz.prog 12 #[Na.val x] W fun e w'=>e=.returned (.bool false)∧W.grownBy w' none):=hid (fun W=>by have:=refRight9_any x hk (by omega) (by omega) W;rw[hr] at this;exact this)
 have HR2:Hid (∀ W,Calls Tryz.prog 12 #[Na.val x] W fun e w'=>∃ v,e=.returned v∧W.grownBy w' none∧isV (.bool false) v w'):=hid (fun W=>(HR3.out W).mono (fun e w' ⟨e1,e2⟩=>⟨_,e1,e2,rfl⟩))
 have HNu:Hid (∀ W,w1.grownBy W none→Calls Tryz.prog 13 #[errV A 9] W fun e w'=>e=.returned (.int .i64 9)∧W.grownBy w' none):=hid (fun W hW=>num_of A 9 (by decide) W (hA1.errs.grown hW))
 rw[hdone] at HBy
 rw[hl] at HLg
 rw[hv] at HLg HPa HTe HBy HR1 HR2 HR3 ⊢
 generalize x.k=k at *
 generalize x.sp=sp at *
 generalize x.nm=nm at *
 clear hk hA hWd h1 h2 hr hI hv hw1 hg1 hb1 hA1 hW1 hl hdone
 go_enter Tryz.func3,Tryz.ntmps3
 go_wp2_with (first
  |(go_at_call 6;(try rw[←HW1.out]);refine (HAl.out _ (grown_refl _ _)).mono ?_;rintro e w2 ⟨rfl,hg2⟩;have G2:=hid hg2;clear hg2)
  |(refine wpList_load_row (by rfl) 23 (.tmp 1) (by rfl) w.heap.size (by rfl) 23 #[.int .i64 k,.string sp,.string nm] (0,0) _ (by first|exact HBx.out _ G9.out|exact HBx.out _ G8.out|exact HBx.out _ G7.out|exact HBx.out _ G6.out|exact HBx.out _ G5.out|exact HBx.out _ G4.out|exact HBx.out _ G3.out|exact HBx.out _ G2.out|exact HBx.out _ G1.out) Tryz.underlying23 rfl HI.out ?_)
  |(go_at_call 7;refine (HLg.out _).mono ?_;rintro e w3 ⟨rfl,hg3⟩;have G3:=hid (grown_trans G2.out hg3);clear hg3)
  |(go_at_call 8;refine (HPa.out _ G3.out).mono ?_;rintro e w4 ⟨rfl,hg4⟩;have G4:=hid (grown_trans G3.out hg4);clear hg4)
  |(go_at_call 9;refine (HTe.out _ G4.out).mono ?_;rintro e w5 ⟨rfl,hg5⟩;have G5:=hid (grown_trans G4.out hg5);clear hg5)
  |(go_at_call 10;refine (HBy.out _ G5.out).mono ?_;rintro e w6 ⟨hg6,rfl⟩;have G6:=hid (grown_trans G5.out hg6);clear hg6))
 refine nt_region8 _ w.heap.size false #[.int .i64 k,.string sp,.string nm] w6 _ _ rfl rfl (fun W hW=>HR1.out W) (fun W hW=>HR2.out W) (fun W hW=>HBx.out _ (grown_trans G6.out hW)) HI.out (grown_drewN (grown_refl _ _) 1) (fun us w7 hg7=>?_)
 simp only[fill_cons,fill_nil,Act.put,List.setIfInBounds_toArray,List.set_cons_succ,List.set_cons_zero]
 have G7:=hid (grown_trans G6.out hg7)
 clear hg7
 go_wp2_with (first
  |(refine wpList_load_row (by rfl) 23 (.tmp 1) (by rfl) w.heap.size (by rfl) 23 #[.int .i64 k,.string sp,.string nm] (0,0) _ (by first|exact HBx.out _ G9.out|exact HBx.out _ G8.out|exact HBx.out _ G7.out|exact HBx.out _ G6.out|exact HBx.out _ G5.out|exact HBx.out _ G4.out|exact HBx.out _ G3.out|exact HBx.out _ G2.out|exact HBx.out _ G1.out) Tryz.underlying23 rfl HI.out ?_)
  |(go_at_call 12;refine (HR3.out _).mono ?_;rintro e w8 ⟨rfl,hg8⟩;have G8:=hid (grown_trans G7.out hg8);clear hg8)
  |(go_at_call 13;refine (HNu.out _ G8.out).mono ?_;rintro e w9 ⟨rfl,hg9⟩;have G9:=hid (grown_trans G8.out hg9);clear hg9)
  |(go_at_call 13;refine (HNu.out _ G9.out).mono ?_;rintro e w10 ⟨rfl,hg10⟩;have G10:=hid (grown_trans G9.out hg10);clear hg10)
  |(go_at_call 13;refine (HNu.out _ G10.out).mono ?_;rintro e w11 ⟨rfl,hg11⟩;have G11:=hid (grown_trans G10.out hg11);clear hg11))
 go_ret
 exact ⟨rfl,grown_trans HG1.out G11.out⟩
theorem namesTell_long (x:Na.Sb) (w:World) (hWd:Words w) (hl:Na.lng x=true) :
  Calls Tryz.prog 3 #[Na.val x] w fun e w'=>e=.returned (.bool true)∧w.grownBy w' none:=by
 have hI:(Tryz.prog.info? 23).map (·.size)=some 3:=by kernel_rfl
 have HI:=hid hI
 have hv:Na.val x=.agg #[.int .i64 x.k,.string x.sp,.string x.nm]:=rfl
 obtain ⟨w1,hw1⟩:∃ w1,w1=w.alloc (.cells #[.int .i64 x.k,.string x.sp,.string x.nm] 23):=⟨_,rfl⟩
 have hg1:w.grownBy w1 none:=by rw[hw1];exact World.grownBy_alloc _ _ _
 have hb1:w1.heap[w.heap.size]?=some (.cells #[.int .i64 x.k,.string x.sp,.string x.nm] 23 (0,0)):=by rw[hw1];exact alloc_at _ _
 have HW1:=hid hw1
 have HG1:=hid hg1
 have G1:Hid (w1.grownBy w1 none):=hid (grown_refl _ _)
 have HBx:=hid (fun W (hW:w1.grownBy W none)=>hold_blk hb1 hW)
 have HAl:=hid (fun W (hW:w1.grownBy W none)=>alive9_any W ((hWd.grown hg1).grown hW))
 have HLg:=hid (fun W=>long9_any x W)
 rw[hl] at HLg
 rw[hv] at HLg ⊢
 generalize x.k=k at *
 generalize x.sp=sp at *
 generalize x.nm=nm at *
 clear hWd hI hv hw1 hg1 hb1 hl
 go_enter Tryz.func3,Tryz.ntmps3
 go_wp2_with (first
  |(go_at_call 6;(try rw[←HW1.out]);refine (HAl.out _ (grown_refl _ _)).mono ?_;rintro e w2 ⟨rfl,hg2⟩;have G2:=hid hg2;clear hg2)
  |(refine wpList_load_row (by rfl) 23 (.tmp 1) (by rfl) w.heap.size (by rfl) 23 #[.int .i64 k,.string sp,.string nm] (0,0) _ (by first|exact HBx.out _ G9.out|exact HBx.out _ G8.out|exact HBx.out _ G7.out|exact HBx.out _ G6.out|exact HBx.out _ G5.out|exact HBx.out _ G4.out|exact HBx.out _ G3.out|exact HBx.out _ G2.out|exact HBx.out _ G1.out) Tryz.underlying23 rfl HI.out ?_)
  |(go_at_call 7;refine (HLg.out _).mono ?_;rintro e w3 ⟨rfl,hg3⟩;have G3:=hid (grown_trans G2.out hg3);clear hg3))
 go_ret
 exact ⟨rfl,grown_trans HG1.out G3.out⟩
theorem namesTell_any (A:Nat→Addr) (x:Na.Sb) (w:World) (hk:i64 x.k) (hA:BodiesOf A w) (hR:RdN A w) (hWd:Words w) :
  Calls Tryz.prog 3 #[Na.val x] w fun e w'=>e=.returned (.bool true)∧w.grownBy w' none:=by
 cases hl:Na.lng x with
 |true=>exact namesTell_long x w hWd hl
 |false =>
  have h2:x.sp.size≤200∧x.nm.size≤200:=by
   unfold Na.lng at hl
   simp only[Bool.or_eq_false_iff,decide_eq_false_iff_not] at hl
   omega
  cases hr:Na.right x with
  |true=>exact namesTell_right A x w hk hA hR hWd h2.1 h2.2 hr
  |false=>exact namesTell_wrong A x w hk hA hWd h2.1 h2.2 hr
end Go.Proofs.YtijkaknggdaajaaGreatDoor
