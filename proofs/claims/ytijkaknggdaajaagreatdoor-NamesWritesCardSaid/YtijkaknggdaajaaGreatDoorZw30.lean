import Derived.Test.YtijkaknggdaajaaGreatDoorZw28
import Derived.Test.YtijkaknggdaajaaGreatDoorZw29
set_option linter.unusedVariables false
set_option linter.unusedSimpArgs false
set_option maxRecDepth 100000
set_option maxHeartbeats 16000000
namespace Go.Proofs.YtijkaknggdaajaaGreatDoor
open Go.Proofs.Tryz
open Go.Lib (hid)
open Go.RowKit
theorem RunW.start {A:Nat->Addr} {W0 w:World} {F:Nat->Prop} {b:Nat} {s:De.St} (h:PrW A W0 F b s w):RunW A W0 w F F b s w:=⟨Upto.refl F w,h,fun k hk=>.inl hk⟩
theorem RunW.kept {A:Nat->Addr} {W0 w wr:World} {F F':Nat->Prop} {b k:Nat} {s':De.St} (h:RunW A W0 w F F' b s' wr) (hk:k<w.heap.size) (hf:¬ F k):wr.heap[k]?=w.heap[k]?:=h.upto.block k hk hf
theorem RunW.lift {A:Nat->Addr} {W0 w0 w wr:World} {F F':Nat->Prop} {b:Nat} {s':De.St} (hF:∀ k,F k->W0.heap.size<=k/\k<w0.heap.size) (hb:W0.grownBy w0 none) (hg:w0.grownBy w none) (h:RunW A W0 w F F' b s' wr):zAB A W0 F b w0 wr s' (.returned (.tuple #[])):=by
 have h1:=hg.size;have h2:=h.upto.size;refine⟨rfl,(Upto.of_grown F hg).trans h.upto (fun _ _ h=>h),h.wrt.wide (fun k hk=>?_) (zAo hb hF (by omega))⟩;rcases h.sub k hk with h3|h3
 ·exact .inl h3
 ·exact .inr ⟨by omega,h3.2⟩
structure GoodW (m:Nat) (s:De.St):Prop where
 lim:Lim m s
 good:De.Good s
theorem GoodW.step {m:Nat} {s:De.St} (h:GoodW m s) (v:De.Val) (hb:v.b=[]) (ht:∀ x∈v.t,x<256):GoodW (m+1) (De.step s v) :=
 ⟨h.lim.step,De.good_step h.good ⟨by rw[hb];simp,ht⟩⟩
theorem zI5 {A:Nat->Addr} {W0 w:World} {F:Nat->Prop} {b m:Nat} {s:De.St} (p:Na.Pr) (h:PrW A W0 F b s w) (hA:BodiesOf A W0) (hg:GoodW m s) (hm:m<=900) (h1:p.1.size<=2000) (h2:p.2.size<=2000) :
  Calls prog 62 #[.pointer (some ⟨b,0,none⟩),.agg #[.string p.1,.string p.2]] w fun e w'=>zAB A W0 F b w w' (Na.putPart s p) e:=by
 obtain⟨p1,p2⟩:=p;have g1:=hg.step Na.vOpen rfl (by simp[Na.vOpen,De.none0]);have g2:=g1.step (Na.vOid p1) rfl (fun x hx=>strL_lt p1 x hx);have g3:=g2.step (Na.vTxt p2) rfl (fun x hx=>strL_lt p2 x hx);obtain⟨w1,hw1⟩:∃ w1,w1=w.alloc (.cells #[.string p1,.string p2] 88):=⟨_,rfl⟩
 have hga:w.grownBy w1 none:=by rw[hw1];exact World.grownBy_alloc _ _ _
 have hb1:w1.heap[w.heap.size]?=some (.cells #[.string p1,.string p2] 88 (0,0)):=by rw[hw1];exact alloc_at _ _
 have HW1:=hid hw1;have HB1:=hid hb1;have HG1:=hid hga;have HX:=hid h;have HNf:Hid (¬ F w.heap.size):=hid (fun hf=>Nat.lt_irrefl _ (h.own _ hf).2);have HWk:=hid (fun k (hk:F k)=>(Nat.lt_of_lt_of_le (h.own k hk).2 hga.size:k<w1.heap.size));have R1:=hid (RunW.start (h.still hga));have HOp:=hid (zGa (h.still hga) hA Na.vOpen rfl);have HOi:=hid (fun F' W (h:PrW A W0 F' b (De.step s Na.vOpen) W)=>zIN h hA (g1.lim.mono (by omega)) (Na.vOid p1) rfl p1 rfl h1);have HTx:=hid (fun F' W (h:PrW A W0 F' b (De.step (De.step s Na.vOpen) (Na.vOid p1)) W)=>zHv h hA (g2.lim.mono (by omega)) (Na.vTxt p2) rfl ⟨by show(-9223372036854775808:Int)<=64;decide,by show(64:Int)<=9223372036854775807;decide⟩ p2 rfl h2);have HCl:=hid (fun F' W (h:PrW A W0 F' b (De.step (De.step (De.step s Na.vOpen) (Na.vOid p1)) (Na.vTxt p2)) W)=>zCe h hA.errs (g3.lim.mono (by omega)) (fun p hp=>(g3.good.op p hp).1) Na.vClose rfl);have hpp:Na.putPart s (p1,p2)=De.step (De.step (De.step (De.step s Na.vOpen) (Na.vOid p1)) (Na.vTxt p2)) Na.vClose:=rfl;rw[hpp];have hn1:Na.vOpen.n=48:=rfl;have hn2:(Na.vTxt p2).n=64:=rfl;rw[hn1]at HOp;rw[hn2]at HTx;generalize De.step (De.step (De.step (De.step s Na.vOpen) (Na.vOid p1)) (Na.vTxt p2)) Na.vClose=s4 at *;generalize De.step (De.step (De.step s Na.vOpen) (Na.vOid p1)) (Na.vTxt p2)=s3 at *;generalize De.step (De.step s Na.vOpen) (Na.vOid p1)=s2 at *;generalize De.step s Na.vOpen=s1 at *;clear h hA hg h1 h2 g1 g2 g3 hw1 hga hb1 hpp hn1 hn2;go_enter func62,ntmps62
 go_wp2_with (first
  |(go_at_call 24;(try rw[<-HW1.out]);(with_reducible refine HOp.out.mono ?_);rintro e w2 hp;have he:=hp.1;subst he;have R2:=hid (R1.out.call hp);have b2:=(R2.out.kept (zAi HB1.out) HNf.out).trans HB1.out;have d0:=cell_blk b2 0 rfl;clear hp b2)
  |(go_at_call 63;(with_reducible refine(HOi.out _ _ R2.out.wrt).mono ?_);rintro e w3 hp;have he:=hp.1;subst he;have R3:=hid (R2.out.call hp);have b3:=(R3.out.kept (zAi HB1.out) HNf.out).trans HB1.out;have d1:=cell_blk b3 1 rfl;clear hp b3)
  |(go_at_call 64;(with_reducible refine(HTx.out _ _ R3.out.wrt).mono ?_);rintro e w4 hp;have he:=hp.1;subst he;have R4:=hid (R3.out.call hp);clear hp)
  |(go_at_call 29;(with_reducible refine(HCl.out _ _ R4.out.wrt).mono ?_);rintro e w5 hp;have he:=hp.1;subst he;have R5:=hid (R4.out.call hp);clear hp))
 go_returns
 exact R5.out.lift HX.out.own HX.out.base HG1.out
theorem GoodW.mono {m n:Nat} {s:De.St} (h:GoodW m s) (hm:m<=n):GoodW n s:=⟨h.lim.mono hm,h.good⟩
theorem zDd {m:Nat} {s:De.St} (l:List Na.Pr) (h:GoodW m s):∀ (j:Nat),j<=l.length->GoodW (m+1+4*j) (stP s l j)
 |0,_=>by rw[zDc];exact h.step Na.vOpen rfl (by simp[Na.vOpen,De.none0])
 |j+1,hj=>by
  rw[stP_succ (by omega)];have h0:=zDd l h j (by omega);have h4:=(((h0.step Na.vOpen rfl (by simp[Na.vOpen,De.none0])).step (Na.vOid (l.getD j (Na.e0,Na.e0)).1) rfl (fun x hx=>strL_lt _ x hx)).step (Na.vTxt (l.getD j (Na.e0,Na.e0)).2) rfl (fun x hx=>strL_lt _ x hx)).step Na.vClose rfl (by simp[Na.vClose,De.none0]);exact h4.mono (by omega)
theorem zI4 {A:Nat->Addr} {W0 w:World} {F:Nat->Prop} {b m:Nat} {s:De.St} (l:List Na.Pr) (a:Option Addr) (n c:Nat) (h:PrW A W0 F b s w) (hA:BodiesOf A W0) (hg:GoodW m s) (hm:m<=800) (hgood:∀ p∈l,Na.GoodP p) (h3:l.length<=3) (hn:l.length=n) (hB:∀ W,Upto F w W->Prts W (.slice a n c) l) :
  Calls prog 61 #[.pointer (some ⟨b,0,none⟩),.int .i64 48,.slice a n c,.func (.func 62) #[] #[]] w fun e w'=>zAB A W0 F b w w' (Na.putRow s l) e:=by
 have hrow:Na.putRow s l=De.step (stP s l n) { De.none0 with kind:=2 }:=by unfold Na.putRow stP;rw[<-hn,List.take_length];rfl
 rw[hrow];refine zF9 h hA.errs 48 l a n c hn (by omega) hB 62 #[] (stP s l) (fun _ _=>by simp[go_sem]) ?_ (fun j F' W hj hW=>?_) (fun F' W hW=>?_)
 ·rw[zDc];unfold De.step;by_cases he:s.e=0
  ·rw[if_neg (by omega),if_pos he,if_pos (by rfl)];rfl
  ·rw[if_pos he,if_neg he]
 ·have hsz:=zIQ hgood (j:=j) (by omega);rw[stP_succ (by omega)];exact zI5 _ hW hA (zDd l hg j (by omega)) (by omega) hsz.1 hsz.2
 ·have hgd:=zDd l hg n (by omega);exact zCe hW hA.errs (hgd.lim.mono (by omega)) (fun p hp=>(hgd.good.op p hp).1) _ rfl
theorem zKe {A:Nat->Addr} {W0 w:World} {F:Nat->Prop} {b m:Nat} {s:De.St} (x:Na.Sb) (h:PrW A W0 F b s w) (hA:BodiesOf A W0) (hWd:Words W0) (hg:GoodW m s) (hm:m<=800) (h1:x.sp.size<=2000) (h2:x.nm.size<=2000) :
  Calls prog 26 #[.pointer (some ⟨b,0,none⟩),Na.val x] w fun e w'=>zAB A W0 F b w w' (Na.putS s x) e:=by
 have hI:(prog.info? 23).map (·.size)=some 3:=by kernel_rfl
 have hv:Na.val x=.agg #[.int .i64 x.k,.string x.sp,.string x.nm]:=rfl;obtain⟨w1,hw1⟩:∃ w1,w1=w.alloc (.cells #[.int .i64 x.k,.string x.sp,.string x.nm] 23):=⟨_,rfl⟩
 have hga:w.grownBy w1 none:=by rw[hw1];exact World.grownBy_alloc _ _ _
 have hb1:w1.heap[w.heap.size]?=some (.cells #[.int .i64 x.k,.string x.sp,.string x.nm] 23 (0,0)):=by rw[hw1];exact alloc_at _ _
 have HW1:=hid hw1;have HB1:=hid hb1;have HG1:=hid hga;have HX:=hid h;have R1:=hid (RunW.start (h.still hga));have hb0:=h.base;by_cases hr:Na.right x=true
 ·have hgood:=Na.parts_good hr;have h3:=Na.parts_le3 x;have HPa:Hid (Calls prog 8 #[Na.val x] w1 fun e w'=>∃ v,e=.returned (.tuple #[v,.nilIface])/\w1.grownBy w' none/\w'.ownsRow w1.heap.size 88 2 v (Na.parts x).length (cellsP (Na.parts x))):=hid (zFa x h1 h2 hr w1 (hWd.grown (zAb hb0 hga)));have hps:Na.putS s x=Na.putRow s (Na.parts x):=by unfold Na.putS;rw[if_pos hr]
  rw[hps];have HRo:=hid (fun a n c W (hW:w1.grownBy W none) (hn:(Na.parts x).length=n) (ho:W.ownsRow w1.heap.size 88 2 (.slice a n c) n (cellsP (Na.parts x)))=>zI4 (Na.parts x) a n c ((h.still hga).still hW) hA hg hm hgood h3 hn (fun W' hu=>by
   have ho2:=zAM ho hu (fun k hk hf=>by
    have q1:=(ho.lt k hk).1;have q2:=(h.own k hf).2;have q3:=hga.size;omega)
   have:=Prts.own ho2 hn.symm;exact this))
  rw[hv]at HPa ⊢;generalize Na.putRow s (Na.parts x)=s9 at *;generalize Na.parts x=l at *;generalize x.k=k at *;generalize x.sp=sp at *;generalize x.nm=nm at *;clear h hA hWd hg h1 h2 hr hgood h3 hps hv hw1 hga hb1 hb0;go_enter func26,ntmps26
  go_wp2_with (first
   |(rw[<-HW1.out];refine wpList_load_row (by rfl) 23 (.tmp 3) (by rfl) w.heap.size (by rfl) 23 #[.int .i64 k,.string sp,.string nm] (0,0) _ HB1.out underlying23 rfl hI ?_)
   |(go_at_call 8;(try rw[<-HW1.out]);(with_reducible refine HPa.out.mono ?_);rintro e w2 ⟨v2,rfl,hg2,ho2⟩;have HO2:=hid ho2;have G2:=hid hg2;obtain⟨pa,pg,pc,rfl,-⟩:=zAp ho2;clear ho2 hg2)
   |(go_at_call 61;(with_reducible refine(HRo.out _ _ _ _ G2.out rfl HO2.out).mono ?_);rintro e w3 hp;have he:=hp.1;subst he;have R3:=hid ((R1.out.still G2.out).call hp);clear hp))
  go_returns
  exact R3.out.lift HX.out.own HX.out.base HG1.out
 ·have hr':Na.right x=false:=by cases hx:Na.right x with
   |false=>rfl
   |true=>exact absurd hx hr
  have HPa:Hid (Calls prog 8 #[Na.val x] w1 fun e w'=>e=.returned (.tuple #[.slice none 0 0,errV A 9])/\w1.grownBy w' none):=hid (zFb A x h1 h2 hr' w1 (zDX (hA.errs.grown (zAb hb0 hga))));have hps:Na.putS s x=De.fail s 9:=by unfold Na.putS;rw[if_neg hr]
  rw[hps];have HFl:=hid (fun F' W (h:PrW A W0 F' b s W)=>zAU h 9 (by decide));rw[hv]at HPa ⊢;generalize De.fail s 9=s9 at *;generalize x.k=k at *;generalize x.sp=sp at *;generalize x.nm=nm at *;clear h hA hWd hg h1 h2 hr hr' hps hv hw1 hga hb1 hb0;go_enter func26,ntmps26
  go_wp2_with (first
   |(rw[<-HW1.out];refine wpList_load_row (by rfl) 23 (.tmp 3) (by rfl) w.heap.size (by rfl) 23 #[.int .i64 k,.string sp,.string nm] (0,0) _ HB1.out underlying23 rfl hI ?_)
   |(go_at_call 8;(try rw[<-HW1.out]);(with_reducible refine HPa.out.mono ?_);rintro e w2 ⟨rfl,hg2⟩;have R2:=hid (R1.out.still hg2);clear hg2)
   |(go_at_call 54;(with_reducible refine(HFl.out _ _ R2.out.wrt).mono ?_);rintro e w3 hp;have he:=hp.1;subst he;have R3:=hid (R2.out.call hp);clear hp))
  go_returns
  exact R3.out.lift HX.out.own HX.out.base HG1.out
theorem zK5 {A:Nat->Addr} {w:World}:TwoW A w w.heap.size (w.heap.size+1) (fun _=>False) De.St.zero De.St.zero
  ((w.alloc (.cells #[.slice none 0 0,.slice none 0 0,.nilIface] 55)).alloc (.cells #[.slice none 0 0,.slice none 0 0,.int .i64 0] 59)):=by
 have hs:(w.alloc (.cells #[.slice none 0 0,.slice none 0 0,.nilIface] 55)).heap.size=w.heap.size+1:=zAe _ _;have h1:PrW A w (fun k=>k=w.heap.size) w.heap.size De.St.zero (w.alloc (.cells #[.slice none 0 0,.slice none 0 0,.nilIface] 55)):=PrW.new (zAa _ _);have h2:=RefW.new (W0:=w) (w:=w.alloc (.cells #[.slice none 0 0,.slice none 0 0,.nilIface] 55)) (World.grownBy_alloc _ _ _);rw[hs]at h2;exact⟨_,_,h1.still (World.grownBy_alloc _ _ _),h2,fun k hk hf=>by omega,fun k hk=>hk.elim⟩
section
variable {A:Nat->Addr} {W0 w w2:World} {b1 b2:Nat} {B B':Nat->Prop}
theorem zC9 {s t s':De.St} {f:FuncId} {args:Array Value} (h:TwoW A W0 b1 b2 B s t w) (hf:∀ F,PrW A W0 F b1 s w->Calls prog f args w fun e w'=>zAB A W0 F b1 w w' s' e) :
  Calls prog f args w fun e w'=>e=.returned (.tuple #[])/\TwoW A W0 b1 b2 B s' t w'/\∀ k,B k->w'.heap[k]?=w.heap[k]?:=by
 obtain⟨F1,F2,h1,h2,h3,h4⟩:=h;refine(hf F1 h1).mono (fun e w' hp=>?_);obtain⟨q1,q2,q3⟩:=hp;have hsz:=q2.size;refine⟨q1,⟨_,F2,q3,h2.other (fun k hk=>(h1.own k hk).1) (zDa q2) h3,fun k hk hf=>?_,fun k hk=>⟨Nat.lt_of_lt_of_le (h4 k hk).1 hsz,fun hf=>?_,(h4 k hk).2.2⟩⟩,fun k hk=>q2.block k (h4 k hk).1 (h4 k hk).2.1⟩
 ·rcases hk with hk|hk
  ·exact h3 k hk hf
  ·have:=(h2.own k hf).2;omega
 ·rcases hf with hf|hf
  ·exact(h4 k hk).2.1 hf
  ·have:=(h4 k hk).1;omega
theorem zEb {s t t':De.St} {f:FuncId} {args:Array Value} (h:TwoW A W0 b1 b2 B s t w) (hf:∀ F,RefW W0 F b2 t w->Calls prog f args w fun e w'=>e=.returned (.tuple #[])/\Upto F w w'/\RefW W0 (Ext F w w') b2 t' w') :
  Calls prog f args w fun e w'=>e=.returned (.tuple #[])/\TwoW A W0 b1 b2 B s t' w'/\∀ k,B k->w'.heap[k]?=w.heap[k]?:=by
 obtain⟨F1,F2,h1,h2,h3,h4⟩:=h;refine(hf F2 h2).mono (fun e w' hp=>?_);obtain⟨q1,q2,q3⟩:=hp;have hsz:=q2.size;refine⟨q1,⟨F1,_,h1.other (fun k hk=>(h2.own k hk).1) (zDa q2) h3.symm,q3,fun k hk hf=>?_,fun k hk=>⟨Nat.lt_of_lt_of_le (h4 k hk).1 hsz,(h4 k hk).2.1,fun hf=>?_⟩⟩,fun k hk=>q2.block k (h4 k hk).1 (h4 k hk).2.2⟩
 ·rcases hf with hf|hf
  ·exact h3 k hk hf
  ·have:=(h1.own k hk).2;omega
 ·rcases hf with hf|hf
  ·exact(h4 k hk).2.2 hf
  ·have:=(h4 k hk).1;omega
theorem zBu {s t:De.St} (h:TwoW A W0 b1 b2 B s t w) (hg:w.grownBy w2 none) (hB:∀ k,B' k->B k∨(w.heap.size<=k/\k<w2.heap.size)):TwoW A W0 b1 b2 B' s t w2:=by
 obtain⟨F1,F2,h1,h2,h3,h4⟩:=h;refine⟨F1,F2,h1.still hg,h2.still hg,h3,fun k hk=>?_⟩;rcases hB k hk with hk|hk
 ·exact⟨Nat.lt_of_lt_of_le (h4 k hk).1 hg.size,(h4 k hk).2⟩
 ·exact⟨hk.2,fun hf=>by have:=(h1.own k hf).2;omega,fun hf=>by have:=(h2.own k hf).2;omega⟩
def TwoQ (A:Nat->Addr) (W0:World) (b1 b2:Nat) (B:Nat->Prop) (s t:De.Rd) (w:World):Prop :=
 ∃ F1 F2,PrR A W0 F1 b1 s w/\RefR W0 F2 b2 t w/\Apart F1 F2/\∀ k,B k->k<w.heap.size/\¬ F1 k/\¬ F2 k
theorem TwoQ.base {s t:De.Rd} (h:TwoQ A W0 b1 b2 B s t w):W0.grownBy w none:=by
 obtain⟨F1,F2,h1,_⟩:=h;exact h1.base
theorem TwoQ.keep {s t:De.Rd} (h:TwoQ A W0 b1 b2 B s t w) (hg:w.grownBy w2 none) (hB:∀ k,B' k->B k∨(w.heap.size<=k/\k<w2.heap.size)):TwoQ A W0 b1 b2 B' s t w2:=by
 obtain⟨F1,F2,h1,h2,h3,h4⟩:=h;refine⟨F1,F2,h1.still hg,h2.still hg,h3,fun k hk=>?_⟩;rcases hB k hk with hk|hk
 ·exact⟨Nat.lt_of_lt_of_le (h4 k hk).1 hg.size,(h4 k hk).2⟩
 ·exact⟨hk.2,fun hf=>by have:=(h1.own k hf).2;omega,fun hf=>by have:=(h2.own k hf).2;omega⟩
theorem TwoQ.prog {s t s':De.Rd} {f:FuncId} {args:Array Value} {P:Ending->Prop} (h:TwoQ A W0 b1 b2 B s t w) (hf:∀ F,PrR A W0 F b1 s w->Calls Tryz.prog f args w fun e w'=>P e/\Upto F w w'/\PrR A W0 (Ext F w w') b1 s' w') :
  Calls Tryz.prog f args w fun e w'=>P e/\TwoQ A W0 b1 b2 B s' t w'/\∀ k,B k->w'.heap[k]?=w.heap[k]?:=by
 obtain⟨F1,F2,h1,h2,h3,h4⟩:=h;refine(hf F1 h1).mono (fun e w' hp=>?_);obtain⟨q1,q2,q3⟩:=hp;have hsz:=q2.size;refine⟨q1,⟨_,F2,q3,h2.other (fun k hk=>(h1.own k hk).1) (zDa q2) h3,fun k hk hf=>?_,fun k hk=>⟨Nat.lt_of_lt_of_le (h4 k hk).1 hsz,fun hf=>?_,(h4 k hk).2.2⟩⟩,fun k hk=>q2.block k (h4 k hk).1 (h4 k hk).2.1⟩
 ·rcases hk with hk|hk
  ·exact h3 k hk hf
  ·have:=(h2.own k hf).2;omega
 ·rcases hf with hf|hf
  ·exact(h4 k hk).2.1 hf
  ·have:=(h4 k hk).1;omega
theorem TwoQ.doc {s t t':De.Rd} {f:FuncId} {args:Array Value} {P:Ending->Prop} (h:TwoQ A W0 b1 b2 B s t w) (hf:∀ F,RefR W0 F b2 t w->Calls Tryz.prog f args w fun e w'=>P e/\Upto F w w'/\RefR W0 (Ext F w w') b2 t' w') :
  Calls Tryz.prog f args w fun e w'=>P e/\TwoQ A W0 b1 b2 B s t' w'/\∀ k,B k->w'.heap[k]?=w.heap[k]?:=by
 obtain⟨F1,F2,h1,h2,h3,h4⟩:=h;refine(hf F2 h2).mono (fun e w' hp=>?_);obtain⟨q1,q2,q3⟩:=hp;have hsz:=q2.size;refine⟨q1,⟨F1,_,h1.other (fun k hk=>(h2.own k hk).1) (zDa q2) h3.symm,q3,fun k hk hf=>?_,fun k hk=>⟨Nat.lt_of_lt_of_le (h4 k hk).1 hsz,(h4 k hk).2.1,fun hf=>?_⟩⟩,fun k hk=>q2.block k (h4 k hk).1 (h4 k hk).2.2⟩
 ·rcases hf with hf|hf
  ·exact h3 k hk hf
  ·have:=(h1.own k hk).2;omega
 ·rcases hf with hf|hf
  ·exact(h4 k hk).2.2 hf
  ·have:=(h4 k hk).1;omega
end
theorem zEV:∀ (f m:Nat) (s:De.Rd) (l:List Na.Pr),LeftN m s->LeftN (m+f) (rowG Na.getPart f s l).1
 |0,m,s,l,h=>by
  rw[rowG];by_cases hm:De.more s=true
  ·rw[if_pos hm];exact⟨h.top,h.all,h.lev,(by decide:(3:Nat)<=28)⟩
  ·rw[if_neg hm];exact h
 |f+1,m,s,l,h=>by
  rw[rowG];by_cases hm:De.more s=true
  ·rw[if_pos hm];have:=zEV f (m+1) _ (l++[(Na.getPart s).2]) h.part;exact this.mono (by omega)
  ·rw[if_neg hm];exact h.mono (by omega)
theorem LeftN.getS {m:Nat} {s:De.Rd} (h:LeftN m s):LeftN (m+9) (Na.getS s).1:=by
 rw[zEv];have h2:=(zEV 8 (m+1) _ [] (h.enter 48)).leave;unfold Na.getEnd;split
 ·exact h2.mono (by omega)
 ·split
  ·exact h2.mono (by omega)
  ·exact⟨h2.top,h2.all,Nat.le_trans h2.lev (by omega),(by decide:(9:Nat)<=28)⟩
def rdN (s:De.Rd):Nat->De.Rd
 |0=>s
 |j+1=>(De.ask (Na.getS (rdN s j)).1 3 0 (-1000) 1000).1
theorem zEj {s:De.Rd} {m:Nat} (h:LeftN m s):∀ (j:Nat),LeftN (m+9*j) (rdN s j)
 |0=>h
 |j+1=>by
  have:=(zEj h j).getS.said 3 0 (-1000) 1000 (by decide) (by decide);exact this.mono (by omega)
def stN (xs:List Na.Sb) (ns:List Int):Nat->De.St
 |0=>De.step De.St.zero Na.vOpen
 |j+1=>De.step (Na.putS (stN xs ns j) (xs.getD j Na.none9)) (vI (ns.getD j 0))
theorem GoodW.err {m:Nat} {s:De.St} (h:GoodW m s) (e:Nat):GoodW m { s with e:=e }:=⟨h.lim.err e,De.good_err h.good e⟩
theorem GoodW.putS {m:Nat} {s:De.St} (h:GoodW m s) (x:Na.Sb):GoodW (m+14) (Na.putS s x):=by
 unfold Na.putS;split
 ·have hg:=zDd (Na.parts x) h (Na.parts x).length (Nat.le_refl _);have h3:=Na.parts_le3 x;have he:Na.putRow s (Na.parts x)=De.step (stP s (Na.parts x) (Na.parts x).length) Na.vClose:=by unfold Na.putRow stP;rw[List.take_length]
  rw[he];exact(hg.step Na.vClose rfl (by simp[Na.vClose,De.none0])).mono (by omega)
 ·unfold De.fail;split
  ·exact(h.err 9).mono (by omega)
  ·exact h.mono (by omega)
theorem zGE (xs:List Na.Sb) (ns:List Int):∀ (j:Nat),GoodW (1+15*j) (stN xs ns j)
 |0=>(⟨Lim.zero,De.good_zero⟩:GoodW 0 De.St.zero).step Na.vOpen rfl (by simp[Na.vOpen,De.none0])
 |j+1=>(((zGE xs ns j).putS _).step (vI (ns.getD j 0)) rfl (by simp[vI,De.none0])).mono (by omega)
theorem BodiesOf.up9 {A:Nat->Addr} {w w':World} (h:BodiesOf A w) (hg:w.grownBy w' none):BodiesOf A w' where
 errs:=h.errs.grown hg
 texts:=fun s m W h1 h2 h3=>h.texts s m W h1 h2 (zAb hg h3)
 oid:=fun s W h1 h2=>h.oid s W h1 (zAb hg h2)
theorem zI0 {o:ByteArray} (h:o=Na.o1∨o=Na.o2∨o=Na.o3):(De.elemOf (Na.vOid o)).length<=10:=by
 rcases h with rfl|rfl|rfl <;> decide +kernel
theorem zEs {s:ByteArray} (h:Pt.label (strL s)=true):s.size<=24:=by
 unfold Pt.label at h;simp only[Bool.and_eq_true,decide_eq_true_eq]at h;have:=h.1.2;rw[zAx]at this;exact this
theorem zCt {p:Na.Pr} (h:Na.GoodP p) (ho:p.1=Na.o1∨p.1=Na.o2∨p.1=Na.o3) (h24:p.2.size<=24):(Na.pelem p).length<=46:=by
 have h1:=zI0 ho;have h2:=(Na.txt_len h.txt).2.2;unfold Na.pelem;rw[Tl.elem_len,List.length_append,h2,Tl.elem_len,zAx];have m2:=Tl.more_le p.2.size;have m3:=Tl.more_le ((De.elemOf (Na.vOid p.1)).length+(2+Tl.more p.2.size+p.2.size));omega
theorem zKW:∀ (l:List (List Nat)),(∀ x∈l,x.length<=46)->l.flatten.length<=46*l.length
 |[],_=>by simp
 |x :: r,h=>by
  have:=zKW r (fun y hy=>h y (by simp[hy]));have:=h x (by simp);rw[List.flatten_cons,List.length_append,List.length_cons];omega
theorem zFz {x:Na.Sb} (h:Na.right x=true):((Na.parts x).map Na.pelem).flatten.length<=138/\(Na.bytesOf (Na.parts x)).length<=144:=by
 have hg:=Na.parts_good h;have h3:=Na.parts_le3 x;obtain⟨_,hn,hs,_,hiff⟩:=Na.right_facts h;have hf:=zKW ((Na.parts x).map Na.pelem) (fun y hy=>by
  obtain⟨p,hp,rfl⟩:=List.mem_map.1 hy;have hgp:=hg p hp;unfold Na.parts at hp;split at hp
  ·simp at hp;rcases hp with rfl|rfl
   ·exact zCt hgp (.inl rfl) (Nat.le_trans (zDh x.k) (by decide))
   ·exact zCt hgp (.inr (.inr rfl)) (zEs hn)
  ·rename_i hne
   have hk:x.k=2:=Decidable.byContradiction fun hk=>hne (hiff.2 hk)
   simp at hp;rcases hp with rfl|rfl|rfl
   ·exact zCt hgp (.inl rfl) (Nat.le_trans (zDh x.k) (by decide))
   ·exact zCt hgp (.inr (.inl rfl)) (zEs (hs hk))
   ·exact zCt hgp (.inr (.inr rfl)) (zEs hn))
 rw[List.length_map]at hf;have hf2:((Na.parts x).map Na.pelem).flatten.length<=138:=by omega
 refine⟨hf2,?_⟩;unfold Na.bytesOf;rw[Tl.elem_len];have:=Tl.more_le ((Na.parts x).map Na.pelem).flatten.length;omega
theorem zIL {x:Na.Sb} {xs:List (List Nat)} (h:Na.right x=true):Na.putS ⟨0,[(48,xs)],[]⟩ x=⟨0,[(48,xs++[Na.bytesOf (Na.parts x)])],[]⟩:=by
 have hg:=Na.parts_good h;have hl:=(zFz h).1;have s1:De.step ⟨0,[(48,xs)],[]⟩ Na.vOpen=⟨0,(48,[]) :: [(48,xs)],[]⟩:=by
  unfold De.step;rw[if_neg (fun h=>h rfl),if_pos (show Na.vOpen.kind=1 from rfl)]
  show De.opn ⟨0,[(48,xs)],[]⟩ 48=_
  unfold De.opn;rw[if_neg (by decide),if_neg (by simp only[List.length_cons,List.length_nil];omega)];rfl
 unfold Na.putS;rw[if_pos h];unfold Na.putRow;rw[s1,Na.putParts_ok (by simp) (Na.parts x) [] hg,List.nil_append]
 show De.put ⟨0,[(48,xs)],[]⟩ 48 ((Na.parts x).map Na.pelem).flatten=_
 rw[De.put,if_neg (by omega)];rfl
theorem zHt {x:Na.Sb} {s:De.St} (he:s.e=0) (h:Na.right x=false):(Na.putS s x).e=9:=by
 unfold Na.putS De.fail;rw[if_neg (by rw[h];decide),if_pos he]
theorem zGF (xs:List Na.Sb) (ns:List Int) (hn:∀ j,De.I64 (ns.getD j 0)):∀ (j:Nat),(∃ els:List (List Nat),stN xs ns j=⟨0,[(48,els)],[]⟩/\els.flatten.length<=158*j)∨(stN xs ns j).e=9
 |0=>.inl ⟨[],rfl,by simp⟩
 |j+1=>by
  rcases zGF xs ns hn j with⟨els,h1,h2⟩|h1
  ·cases hr:Na.right (xs.getD j Na.none9)with
   |true =>
    left
    obtain⟨f1,f2,f3⟩:=fitI (hn j);refine⟨els++[Na.bytesOf (Na.parts (xs.getD j Na.none9))]++[De.elemOf (vI (ns.getD j 0))],?_,?_⟩
    ·rw[stN,h1,zIL hr,De.step_plain f1 rfl,if_pos f2];rfl
    ·have:=(zFz hr).2;simp only[List.flatten_append,List.flatten_cons,List.flatten_nil,List.append_nil,List.length_append];omega
   |false =>
    right
    have h9:=zHt (s:=stN xs ns j) (by rw[h1]) hr;rw[stN,zBm (by rw[h9];decide)];exact h9
  ·right
   rw[stN,zGN (by rw[h1];decide),zBm (by rw[h1];decide)];exact h1
theorem zJW (xs:List Na.Sb) (ns:List Int) (hn:∀ j,De.I64 (ns.getD j 0)) (j:Nat) (hj:j<=12) :
  (∃ L,De.done (De.step (stN xs ns j) Na.vClose)=.ok L/\L.length<=2000)∨De.done (De.step (stN xs ns j) Na.vClose)=.error 9:=by
 rcases zGF xs ns hn j with⟨els,h1,h2⟩|h1
 ·left
  have hc:De.step (stN xs ns j) Na.vClose=⟨0,[],[Tl.elem 48 els.flatten]⟩:=by
   rw[h1]
   show De.put ⟨0,[],[]⟩ 48 els.flatten=_
   rw[De.put,if_neg (by omega)];rfl
  have hl:=Tl.elem_len 48 els.flatten;have hm:=Tl.more_le els.flatten.length;refine⟨Tl.elem 48 els.flatten,?_,by omega⟩;rw[hc];unfold De.done;rw[if_neg (fun h=>h rfl),if_neg (fun h=>h rfl),List.flatten_cons,List.flatten_nil,List.append_nil,if_neg (by omega)]
 ·right
  rw[zBm (by rw[h1];decide)];unfold De.done;rw[if_pos (by rw[h1];decide),h1]
theorem zLt {A:Nat->Addr} {W0 w:World} {F:Nat->Prop} {b:Nat} {s:De.Rd} (h:PrR A W0 F b s w) (hA:AllErrs W0 A) (tag least most:Int) :
  Calls prog 37 #[.pointer (some ⟨b,0,none⟩),.int .i64 least,.int .i64 most] w fun e w'=>∃ v,e=.returned v/\zJO A W0 F b s 3 tag least most w w' v :=
 (zIt h hA least most).mono (fun e w' ⟨v,he,hp⟩=>by
  subst he;exact⟨v,rfl,zGx h (by decide) (by decide) (by decide) (zIf w 3 least most (.inl rfl)) hp (zEE w 3 w' hp.1.size)⟩)
theorem zK4 (w:World) (k n:Int) (x:De.Val) (hk:x.kind=k) (hn:x.n=n) (hi:x.is=false) (hb:x.b=[]) (ht:x.t=[]):ValV w (.agg #[.int .i64 k,.int .i64 n,.bool false,.slice none 0 0,.string ⟨#[]⟩]) x :=
 ⟨.slice none 0 0,⟨#[]⟩,by rw[hk,hn,hi],by rw[hb];exact⟨by simp,none,0,0,0,rfl,Nat.le_refl _,fun h=>absurd h (Nat.lt_irrefl _),fun j hj=>absurd hj (Nat.not_lt_zero _)⟩,fun _ _ e=>by cases e;exact⟨rfl,rfl⟩,by rw[ht];rfl,by decide⟩
section
variable {A:Nat->Addr} {W0 w w2 w3:World} {F1 F2:Nat->Prop} {b1 b2 n m:Nat} {sE s' s2:De.Rd} {gv r r2:Value} {gl:List Int} {xs ys:List Value} {e:Ending} {y:De.Val}
end
theorem zMP {A:Nat->Addr} {k:Nat} (hk:k<=28) {w:World} (hA:AllErrs w A):Calls prog 13 #[zAu A k] w fun e w'=>∃ v,e=.returned v/\w.grownBy w' none/\isV (.int .i64 (k:Nat)) v w':=by
 refine(zGP A k hk w hA).mono ?_;rintro e w' ⟨rfl,hg⟩;exact⟨_,rfl,hg,rfl⟩
theorem zIu (n:Int) (y2 y3 y4:Value) (w:World):(Instr.field 63 (.agg #[.int .i64 0,.int .i64 n,y2,y3,y4]) 1).run prog w=.ok (.int .i64 n) w:=by kernel_rfl
theorem zHk (W0:World) (v:Value) (L:List Nat) (hB:Bytes W0 v L) (h0:Whole0 v) (hl:L.length<=2000) (W:World) (hW0:W0.grownBy W none) :
  Calls prog 33 #[v] W fun e w'=>∃ b,e=.returned (.pointer (some ⟨b,0,none⟩))/\W.heap.size<=b/\W.grownBy w' none/\RefR W0 (Ext (fun _=>False) W w') b (De.start L) w':=by
 refine zFS _ L hW0 (fun k hk=>hk.elim) ?_ (by omega);refine((zFy (F:=Or0 W0 (fun _=>False)) (hB.grown hW0) (fun k hk=>?_) (fun h k hk=>?_)).map (fun X hX=>⟨hX,h0⟩))
 ·rcases hk with hk|hk
  ·exact hk.elim
  ·exact Nat.lt_of_lt_of_le hk hW0.size
 ·right
  obtain⟨_,a,sb,so,c,e,_,h3,_⟩:=hB;obtain⟨e4,h4⟩:=h3 h;obtain⟨a',n',c',e5,rfl⟩:=hk;rw[e5]at e;simp only[Value.slice.injEq]at e;rw[e4]at e;have:=Option.some.inj e.1;rw[this];exact h4
def getN (s:De.Rd):De.Rd×Int:=((De.ask s 3 0 (-1000) 1000).1,(De.ask s 3 0 (-1000) 1000).2.n)
theorem zMM {A:Nat->Addr} {W0 w:World} {F:Nat->Prop} {b:Nat} {s:De.Rd} (h:PrR A W0 F b s w) (hE:AllErrs W0 A) :
  Calls prog 37 #[.pointer (some ⟨b,0,none⟩),.int .i64 (-1000),.int .i64 1000] w fun e w'=>e=.returned (.int .i64 (getN s).2)/\Upto F w w'/\PrR A W0 (Ext F w w') b (getN s).1 w' :=
 (zLt h hE 0 (-1000) 1000).mono (fun e w' ⟨v,he,hp⟩=>by
  obtain⟨h1,_⟩:=zLZ hp.ans hp.one (by decide);exact⟨by rw[he,h1];rfl,hp.upto,hp.rd⟩)
theorem zMZ {W0 w:World} {F:Nat->Prop} {b:Nat} {s:De.Rd} (h:RefR W0 F b s w) (h1:s.left.length<=2000) (h2:s.top.length<=2000) :
  Calls prog 35 #[.pointer (some ⟨b,0,none⟩),.agg #[.int .i64 3,.int .i64 0,.int .i64 (-1000),.int .i64 1000]] w fun e w'=>(∃ y2 y3 y4,e=.returned (.agg #[.int .i64 0,.int .i64 (getN s).2,y2,y3,y4]))/\Upto F w w'/\RefR W0 (Ext F w w') b (getN s).1 w' :=
 (zDe h 3 0 (-1000) 1000 (by omega) h1 h2).mono (fun e w' hp=>by
  obtain⟨a,c,S,he,_⟩:=hp.ans;exact⟨⟨_,_,_,he⟩,hp.upto,hp.rd⟩)
theorem zHX (w:World):Bytes w (.slice none 0 0) []:=⟨by simp,none,0,0,0,rfl,Nat.le_refl _,fun h=>absurd h (Nat.lt_irrefl _),fun j hj=>absurd hj (Nat.not_lt_zero _)⟩
theorem zC8 (la na:Option Addr) (ln lc nn nc:Nat) (w:World) (hWd:Words w) (hl:12<ln∨12<nn) :
  Calls prog 5 #[.slice la ln lc,.slice na nn nc] w fun e w'=>e=.returned (.bool true)/\w.grownBy w' none:=by
 have HAl:=hid (zD9 w hWd);clear hWd;by_cases h1:12<ln
 ·have hn:(12:Int)<(ln:Int):=by omega
  clear hl;go_enter func5,ntmps5
  go_wp2_with (go_at_call 6;refine HAl.out.mono ?_;rintro e w1 ⟨rfl,hg1⟩;have HG1:=hid hg1;clear hg1)
  go_ret
  exact⟨rfl,HG1.out⟩
 ·have hn:¬(12:Int)<(ln:Int):=by omega
  have hm:(12:Int)<(nn:Int):=by omega
  clear hl;go_enter func5,ntmps5
  go_wp2_with (go_at_call 6;refine HAl.out.mono ?_;rintro e w1 ⟨rfl,hg1⟩;have HG1:=hid hg1;clear hg1)
  go_ret
  exact⟨rfl,HG1.out⟩
theorem zC7 (A:Nat->Addr) (la na:Option Addr) (lsb lso ln lc nn nc:Nat) (xs:List Na.Sb) (ns:List Int) (w:World) (hA:BodiesOf A w) (hR:RdN A w) (hWd:Words w)
  (hxn:xs.length=ln) (hla:0<ln->la=some ⟨lsb,lso,none⟩/\lsb<w.heap.size) (hX:zL3 w lsb lso xs) (hk:∀ x∈xs,i64 x.k) (hN:Ints w (.slice na nn nc) ns) (hnn:ns.length=nn) (hni:∀ z∈ns,De.I64 z) (h12:ln<=12) (hn12:nn<=12) :
  Calls prog 5 #[.slice la ln lc,.slice na nn nc] w fun e w'=>e=.returned (.bool true)/\w.grownBy w' none:=by
 have hI3:(prog.info? 23).map (·.size)=some 3:=by kernel_rfl
 have HI3:=hid hI3;have HAl:=hid (zD9 w hWd);have HA:=hid hA;have HR:=hid hR;have HWd:=hid hWd;have HX:=hid hX;have HK:=hid hk;have HLa:=hid hla;have HXn:=hid hxn;have HNn:=hid hnn;have HNs:=hid hN;have hI64:∀ j,De.I64 (ns.getD j 0):=fun j=>by
  rw[List.getD_eq_getElem?_getD];by_cases hj:j<ns.length
  ·rw[List.getElem?_eq_getElem hj];exact hni _ (List.getElem_mem _)
  ·rw[List.getElem?_eq_none (by omega)];exact⟨by show(-9223372036854775808:Int)<=0;decide,by show(0:Int)<=9223372036854775807;decide⟩
 have HI64:=hid hI64;have hn1:¬(12:Int)<(ln:Int):=by omega
 have hm1:¬(12:Int)<(nn:Int):=by omega
 have H12:=hid h12;have HGd:=hid (fun j=>zGE xs ns j);clear hA hR hWd hxn hla hX hk hN hnn hni h12 hn12 hI3 hI64;go_enter func5,ntmps5
 go_wp2_with (go_at_call 6;refine HAl.out.mono ?_;rintro e w2 ⟨rfl,hg2⟩;have HG2:=hid hg2;have HTn:=hid (zK5 (A:=A) (w:=w2));clear hg2)
 have HA2:=hid (HA.out.up9 HG2.out);have HW2:=hid (HWd.out.grown HG2.out);obtain⟨W2,hW2⟩:∃ W2,W2=(w2.alloc (.cells #[.slice none 0 0,.slice none 0 0,.nilIface] 55)).alloc (.cells #[.slice none 0 0,.slice none 0 0,.int .i64 0] 59):=⟨_,rfl⟩
 rw[<-hW2]at HTn ⊢;have HOp:Hid (Calls prog 24 #[.pointer (some ⟨w2.heap.size,0,none⟩),.int .i64 48] W2 fun e w'=>e=.returned (.tuple #[])/\TwoW A w2 w2.heap.size (w2.heap.size+1) (fun _=>False) (stN xs ns 0) De.St.zero w'/\∀ k,False->w'.heap[k]?=W2.heap[k]?):=hid (zC9 HTn.out (fun F hF=>zCL hF HA2.out.errs 48));have HDo0:Hid (∀ W,TwoW A w2 w2.heap.size (w2.heap.size+1) (fun _=>False) (stN xs ns 0) De.St.zero W->Calls prog 25 #[.pointer (some ⟨w2.heap.size+1,0,none⟩),.agg #[.int .i64 1,.int .i64 48,.bool false,.slice none 0 0,.string ⟨#[]⟩]] W fun e w'=>e=.returned (.tuple #[])/\TwoW A w2 w2.heap.size (w2.heap.size+1) (fun _=>False) (stN xs ns 0) (stN xs ns 0) w'/\∀ k,False->w'.heap[k]?=W.heap[k]?):=hid (fun W h=>zEb h (fun F hF=>zCs hF Lim.zero (by omega) _ Na.vOpen (zK4 _ _ _ _ rfl rfl rfl rfl rfl) (by simp[Na.vOpen,De.none0])));clear hW2;go_wp2_with (first
  |(go_at_call 24;refine HOp.out.mono ?_;rintro e w3 ⟨rfl,hT3,-⟩;have T3:=hid hT3;clear hT3)
  |(go_at_call 25;refine(HDo0.out _ T3.out).mono ?_;rintro e w4 ⟨rfl,hT4,-⟩;have T4:=hid hT4;clear hT4))
 go_loopw [41] (fun i wr=>∃ (j:Nat),j<=ln/\i=.int .i64 j/\TwoW A w2 w2.heap.size (w2.heap.size+1) (fun _=>False) (stN xs ns j) (stN xs ns j) wr) (fun i _=>ln-(intOf i).toNat)
 case atStart=>exact⟨0,Nat.zero_le _,rfl,T4.out⟩
 case round =>
  obtain⟨j,hj,rfl,hT⟩:=hrel;have HT:=hid hT;have HGr:Hid (w.grownBy wr none):=hid (zAb HG2.out hT.base);clear hT;by_cases hjn:j<ln
  ·obtain⟨rfl,hlsb⟩:=HLa.out (by omega);have hblk:=HGr.out.block lsb hlsb (by simp);obtain⟨d0,d1,d2⟩:=HX.out j (by rw[HXn.out];exact hjn);have c0:=(World.cell?_of_block hblk).trans d0;have c1:=(World.cell?_of_block hblk).trans d1;have c2:=(World.cell?_of_block hblk).trans d2;obtain⟨x,hx⟩:∃ x,x=xs.getD j Na.none9:=⟨_,rfl⟩
   have hk64:i64 x.k:=by
    rw[hx,List.getD_eq_getElem?_getD,List.getElem?_eq_getElem (by rw[HXn.out];exact hjn)];exact HK.out _ (List.getElem_mem _)
   rw[<-hx]at c0 c1 c2;have HLg:=hid (fun W=>zJa x W);have hv:Na.val x=.agg #[.int .i64 x.k,.string x.sp,.string x.nm]:=rfl;obtain⟨s,hs⟩:∃ s,s=stN xs ns j:=⟨_,rfl⟩
   have hgs:=HGd.out j;rw[<-hs]at hgs HT;obtain⟨v,hvn⟩:∃ v,v=ns.getD j 0:=⟨_,rfl⟩
   have hv64:=HI64.out j;rw[<-hvn]at hv64;obtain⟨s1,hs1⟩:∃ s1,s1=Na.putS s x:=⟨_,rfl⟩
   obtain⟨s2,hs2⟩:∃ s2,s2=De.step s1 (vI v):=⟨_,rfl⟩
   have hst:stN xs ns (j+1)=s2:=by rw[hs2,hs1,hs,hx,hvn];rfl
   have HSt:=hid hst;cases hlg:Na.lng x with
   |true =>
    rw[hlg]at HLg;rw[hv]at HLg;generalize x.k=k at *;generalize x.sp=sp at *;generalize x.nm=nm at *;obtain⟨W5,hW5⟩:∃ W5,W5=wr.alloc (.cells #[.int .i64 k,.string sp,.string nm] 23):=⟨_,rfl⟩
    have g5:wr.grownBy W5 none:=by rw[hW5];exact World.grownBy_alloc _ _ _
    have b5:W5.heap[wr.heap.size]?=some (.cells #[.int .i64 k,.string sp,.string nm] 23 (0,0)):=by rw[hW5];exact alloc_at _ _
    have B5:=hid b5;have HW5:=hid hW5;have G5:=hid g5;clear hx hk64 hv hs hgs hvn hv64 hs1 hs2 hst hlg hW5 g5 b5 d0 d1 d2 hblk hlsb;go_wp2_with (first
     |(rw[<-HW5.out];refine wpList_load_row (by rfl) 23 (.tmp 8) (by rfl) wr.heap.size (by rfl) 23 #[.int .i64 k,.string sp,.string nm] (0,0) _ (by first|exact B9.out|exact B8.out|exact B7.out|exact B6.out|exact B5.out) underlying23 rfl HI3.out ?_)
     |(refine wpList_load_row (by rfl) 23 (.tmp 8) (by rfl) wr.heap.size (by rfl) 23 #[.int .i64 k,.string sp,.string nm] (0,0) _ (by first|exact B9.out|exact B8.out|exact B7.out|exact B6.out|exact B5.out) underlying23 rfl HI3.out ?_)
     |(go_at_call 7;(try rw[<-HW5.out]);refine(HLg.out _).mono ?_;rintro e w6 ⟨rfl,hg6⟩;have G6:=hid hg6;clear hg6))
    go_ret
    exact⟨rfl,zAb HGr.out (zAb G5.out G6.out)⟩
   |false =>
    rw[hlg]at HLg;have hsz:x.sp.size<=200/\x.nm.size<=200:=by unfold Na.lng at hlg;simp at hlg;omega
    have HPt:Hid (∀ W,TwoW A w2 w2.heap.size (w2.heap.size+1) (fun k=>k=wr.heap.size) s s W->Calls prog 26 #[.pointer (some ⟨w2.heap.size,0,none⟩),Na.val x] W fun e w'=>e=.returned (.tuple #[])/\TwoW A w2 w2.heap.size (w2.heap.size+1) (fun k=>k=wr.heap.size) s1 s w'/\∀ k,k=wr.heap.size->w'.heap[k]?=W.heap[k]?):=hid (fun W h=>by
     rw[hs1];exact zC9 h (fun F hF=>zKe x hF HA2.out HW2.out hgs (by have:=H12.out;omega) (by omega) (by omega)))
    have hg1:GoodW (1+15*j+14) s1:=by rw[hs1];exact hgs.putS x
    have HIt:Hid (∀ W,TwoW A w2 w2.heap.size (w2.heap.size+1) (fun k=>k=wr.heap.size) s1 s W->Calls prog 27 #[.pointer (some ⟨w2.heap.size,0,none⟩),.int .i64 v] W fun e w'=>e=.returned (.tuple #[])/\TwoW A w2 w2.heap.size (w2.heap.size+1) (fun k=>k=wr.heap.size) s2 s w'/\∀ k,k=wr.heap.size->w'.heap[k]?=W.heap[k]?):=hid (fun W h=>by
     rw[hs2];exact zC9 h (fun F hF=>zLy hF HA2.out.errs (hg1.lim.mono (by have:=H12.out;omega)) (vI v) rfl hv64))
    have HPd:Hid (∀ W,TwoW A w2 w2.heap.size (w2.heap.size+1) (fun k=>k=wr.heap.size) s2 s W->Calls prog 28 #[.pointer (some ⟨w2.heap.size+1,0,none⟩),Na.val x] W fun e w'=>e=.returned (.tuple #[])/\TwoW A w2 w2.heap.size (w2.heap.size+1) (fun k=>k=wr.heap.size) s2 s1 w'/\∀ k,k=wr.heap.size->w'.heap[k]?=W.heap[k]?):=hid (fun W h=>by
     rw[hs1]at *;exact zEb h (fun F hF=>zFX x hF hgs.lim (by have:=H12.out;omega) hk64 (by omega) (by omega)))
    have HDo:Hid (∀ W,TwoW A w2 w2.heap.size (w2.heap.size+1) (fun k=>k=wr.heap.size) s2 s1 W->Calls prog 25 #[.pointer (some ⟨w2.heap.size+1,0,none⟩),.agg #[.int .i64 3,.int .i64 v,.bool false,.slice none 0 0,.string ⟨#[]⟩]] W fun e w'=>e=.returned (.tuple #[])/\TwoW A w2 w2.heap.size (w2.heap.size+1) (fun _=>False) s2 s2 w'):=hid (fun W h=>by
     rw[hs2]at *;exact(zEb h (fun F hF=>zCs hF hg1.lim (by have:=H12.out;omega) _ (vI v) (zK4 _ _ _ _ rfl rfl rfl rfl rfl) (by simp[vI,De.none0]))).mono (fun e w' hp=>⟨hp.1,zBu hp.2.1 (zAa _ _) (fun k hk=>hk.elim)⟩))
    rw[hv]at HLg HPt HPd;generalize x.k=k at *;generalize x.sp=sp at *;generalize x.nm=nm at *;obtain⟨W5,hW5⟩:∃ W5,W5=wr.alloc (.cells #[.int .i64 k,.string sp,.string nm] 23):=⟨_,rfl⟩
    have g5:wr.grownBy W5 none:=by rw[hW5];exact World.grownBy_alloc _ _ _
    have b5:W5.heap[wr.heap.size]?=some (.cells #[.int .i64 k,.string sp,.string nm] 23 (0,0)):=by rw[hW5];exact alloc_at _ _
    have T5:Hid (TwoW A w2 w2.heap.size (w2.heap.size+1) (fun k=>k=wr.heap.size) s s W5):=hid (zBu HT.out g5 (fun k hk=>.inr ⟨by rw[hk];exact Nat.le_refl _,by rw[hk];exact zAi b5⟩));have B5:=hid b5;have HW5:=hid hW5;have G5:=hid g5;by_cases hjm:j<nn
    ·obtain⟨_,nsb,nso,_,hnv,-,hna,hncs⟩:=HNs.out;rw[HNn.out]at hnv hna hncs;simp only[Value.slice.injEq]at hnv;obtain⟨rfl,_,rfl⟩:=hnv;obtain⟨rfl,hnsb⟩:=hna (by omega);have HCn:Hid (∀ W,w.grownBy W none->W.cell? ⟨nsb,nso+j,none⟩=some (.int .i64 v)):=hid (fun W hW=>by
      rw[hvn];exact(World.cell?_of_block (hW.block nsb hnsb (by simp))).trans (hncs j hjm))
     clear hx hk64 hv hs hgs hvn hv64 hs1 hs2 hst hlg hW5 g5 b5 hsz hg1 d0 d1 d2 hblk hlsb hna hncs hnsb;go_wp2_with (first
     |(rw[<-HW5.out];refine wpList_load_row (by rfl) 23 (.tmp 8) (by rfl) wr.heap.size (by rfl) 23 #[.int .i64 k,.string sp,.string nm] (0,0) _ (by first|exact B9.out|exact B8.out|exact B7.out|exact B6.out|exact B5.out) underlying23 rfl HI3.out ?_)
     |(refine wpList_load_row (by rfl) 23 (.tmp 8) (by rfl) wr.heap.size (by rfl) 23 #[.int .i64 k,.string sp,.string nm] (0,0) _ (by first|exact B9.out|exact B8.out|exact B7.out|exact B6.out|exact B5.out) underlying23 rfl HI3.out ?_)
     |(go_at_call 7;(try rw[<-HW5.out]);refine(HLg.out _).mono ?_;rintro e w6 ⟨rfl,hg6⟩;have T6:=hid (zBu (B':=(fun k=>k=wr.heap.size)) T5.out hg6 (fun k hk=>.inl hk));have B6:=hid (zAr B5.out hg6);have cn:=HCn.out _ (zAb HGr.out (zAb G5.out hg6));clear hg6)
     |(go_at_call 26;refine(HPt.out _ T6.out).mono ?_;rintro e w7 ⟨rfl,hT7,hb7⟩;have T7:=hid hT7;have B7:=hid ((hb7 _ rfl).trans B6.out);clear hT7 hb7)
     |(go_at_call 27;refine(HIt.out _ T7.out).mono ?_;rintro e w8 ⟨rfl,hT8,hb8⟩;have T8:=hid hT8;have B8:=hid ((hb8 _ rfl).trans B7.out);clear hT8 hb8)
     |(go_at_call 28;refine(HPd.out _ T8.out).mono ?_;rintro e w9 ⟨rfl,hT9,hb9⟩;have T9:=hid hT9;clear hT9 hb9)
     |(go_at_call 25;refine(HDo.out _ T9.out).mono ?_;rintro e w10 ⟨rfl,hT10⟩;have T10:=hid hT10;clear hT10))
     go_roundw
     case rel=>exact⟨j+1,by omega,by go_num,by rw[HSt.out];exact T10.out⟩
     case measure=>simp[intOf];omega
    ·have hv0:v=0:=by rw[hvn,List.getD_eq_getElem?_getD,List.getElem?_eq_none (by rw[HNn.out];omega)];rfl
     rw[hv0]at HIt HDo;clear hx hk64 hv hs hgs hvn hv64 hs1 hs2 hst hlg hW5 g5 b5 hsz hg1 d0 d1 d2 hblk hlsb hv0;go_wp2_with (first
     |(rw[<-HW5.out];refine wpList_load_row (by rfl) 23 (.tmp 8) (by rfl) wr.heap.size (by rfl) 23 #[.int .i64 k,.string sp,.string nm] (0,0) _ (by first|exact B9.out|exact B8.out|exact B7.out|exact B6.out|exact B5.out) underlying23 rfl HI3.out ?_)
     |(refine wpList_load_row (by rfl) 23 (.tmp 8) (by rfl) wr.heap.size (by rfl) 23 #[.int .i64 k,.string sp,.string nm] (0,0) _ (by first|exact B9.out|exact B8.out|exact B7.out|exact B6.out|exact B5.out) underlying23 rfl HI3.out ?_)
     |(go_at_call 7;(try rw[<-HW5.out]);refine(HLg.out _).mono ?_;rintro e w6 ⟨rfl,hg6⟩;have T6:=hid (zBu (B':=(fun k=>k=wr.heap.size)) T5.out hg6 (fun k hk=>.inl hk));have B6:=hid (zAr B5.out hg6); clear hg6)
     |(go_at_call 26;refine(HPt.out _ T6.out).mono ?_;rintro e w7 ⟨rfl,hT7,hb7⟩;have T7:=hid hT7;have B7:=hid ((hb7 _ rfl).trans B6.out);clear hT7 hb7)
     |(go_at_call 27;refine(HIt.out _ T7.out).mono ?_;rintro e w8 ⟨rfl,hT8,hb8⟩;have T8:=hid hT8;have B8:=hid ((hb8 _ rfl).trans B7.out);clear hT8 hb8)
     |(go_at_call 28;refine(HPd.out _ T8.out).mono ?_;rintro e w9 ⟨rfl,hT9,hb9⟩;have T9:=hid hT9;clear hT9 hb9)
     |(go_at_call 25;refine(HDo.out _ T9.out).mono ?_;rintro e w10 ⟨rfl,hT10⟩;have T10:=hid hT10;clear hT10))
     go_roundw
     case rel=>exact⟨j+1,by omega,by go_num,by rw[HSt.out];exact T10.out⟩
     case measure=>simp[intOf];omega
  ·obtain rfl:j=ln:=by omega
   have HC:Hid (∀ W,TwoW A w2 w2.heap.size (w2.heap.size+1) (fun _=>False) (stN xs ns j) (stN xs ns j) W->Calls prog 29 #[.pointer (some ⟨w2.heap.size,0,none⟩)] W fun e w'=>e=.returned (.tuple #[])/\TwoW A w2 w2.heap.size (w2.heap.size+1) (fun _=>False) (De.step (stN xs ns j) Na.vClose) (stN xs ns j) w'/\∀ k,False->w'.heap[k]?=W.heap[k]?):=hid (fun W h=>zC9 h (fun F hF=>zCe hF HA2.out.errs ((HGd.out j).lim.mono (by have:=H12.out;omega)) (fun p hp=>((HGd.out j).good.op p hp).1) Na.vClose rfl));have HC2:Hid (∀ W,TwoW A w2 w2.heap.size (w2.heap.size+1) (fun _=>False) (De.step (stN xs ns j) Na.vClose) (stN xs ns j) W->Calls prog 25 #[.pointer (some ⟨w2.heap.size+1,0,none⟩),.agg #[.int .i64 2,.int .i64 0,.bool false,.slice none 0 0,.string ⟨#[]⟩]] W fun e w'=>e=.returned (.tuple #[])/\TwoW A w2 w2.heap.size (w2.heap.size+1) (fun _=>False) (De.step (stN xs ns j) Na.vClose) (De.step (stN xs ns j) Na.vClose) w'/\∀ k,False->w'.heap[k]?=W.heap[k]?):=hid (fun W h=>zEb h (fun F hF=>zCs hF (HGd.out j).lim (by have:=H12.out;omega) _ Na.vClose (zK4 _ _ _ _ rfl rfl rfl rfl rfl) (by simp[Na.vClose,De.none0])));obtain⟨S,hS⟩:∃ S,S=De.step (stN xs ns j) Na.vClose:=⟨_,rfl⟩
   have hlim:Lim (1+15*j+1) S:=by rw[hS];exact(HGd.out j).lim.step
   have HD1:Hid (∀ W,TwoW A w2 w2.heap.size (w2.heap.size+1) (fun _=>False) S S W->Calls prog 30 #[.pointer (some ⟨w2.heap.size,0,none⟩)] W fun e w'=>zCS A W w' (De.done S) e):=hid (fun W ⟨F1,F2,h1,_⟩=>zHA h1 HA2.out.errs (hlim.mono (by have:=H12.out;omega)));have HD2:Hid (∀ W,TwoW A w2 w2.heap.size (w2.heap.size+1) (fun _=>False) S S W->Calls prog 31 #[.pointer (some ⟨w2.heap.size+1,0,none⟩)] W fun e w'=>zK3 W w' (De.done S) e):=hid (fun W ⟨F1,F2,_,h2,_⟩=>zF0 h2 hlim (by have:=H12.out;omega));have hdn:=zJW xs ns HI64.out j (by have:=H12.out;omega);rw[<-hS]at HC HC2 hdn;clear hlim hS;rcases hdn with⟨L,hL,hL2⟩|hL
   ·rw[hL]at HD1 HD2;obtain⟨N,hN⟩:∃ N,N=L.length:=⟨_,rfl⟩
    have HN:=hid hN;have HL2:=hid hL2;have HS0:Hid (LeftN 1 (De.enter (De.start L) 48).1):=hid ((LeftN.start hL2).enter 48);have hls:=LeftN.start hL2;have HRd:Hid (∀ W0 a c,w.grownBy W0 none->Bytes W0 (.slice a N c) L->Whole0 (.slice a N c)->Calls prog 32 #[.slice a N c] W0 fun e w'=>∃ b,e=.returned (.pointer (some ⟨b,0,none⟩))/\W0.grownBy w' none/\PrR A W0 (fun k=>W0.heap.size<=k/\k<w'.heap.size) b (De.start L) w'):=hid (fun W0 a c hW hb h0=>by
     rw[hN]at hb h0 ⊢;exact(zHj A a c L W0 W0 (zAa _ _) hb h0 (by omega) (HA.out.errs.grown hW)).mono (fun e w' ⟨b,h1,_,h3,h4⟩=>⟨b,h1,h3,h4⟩))
    have HRf:Hid (∀ W0 a c W,W0.grownBy W none->Bytes W0 (.slice a N c) L->Whole0 (.slice a N c)->Calls prog 33 #[.slice a N c] W fun e w'=>∃ b,e=.returned (.pointer (some ⟨b,0,none⟩))/\W.grownBy w' none/\RefR W0 (Ext (fun _=>False) W w') b (De.start L) w'):=hid (fun W0 a c W hW hb h0 =>
     (zHk W0 _ L hb h0 hL2 W hW).mono (fun e w' ⟨b,h1,_,h3,h4⟩=>⟨b,h1,h3,h4⟩))
    have HEn:Hid (∀ w9 b1 b2 W,w.grownBy w9 none->TwoQ A w9 b1 b2 (fun _=>False) (De.start L) (De.start L) W->Calls prog 34 #[.pointer (some ⟨b1,0,none⟩),.int .i64 48] W fun e w'=>(∃ q,e=.returned (.bool q))/\TwoQ A w9 b1 b2 (fun _=>False) (De.enter (De.start L) 48).1 (De.start L) w'/\∀ k,False->w'.heap[k]?=W.heap[k]?):=hid (fun w9 b1 b2 W hW h=>TwoQ.prog (P:=fun e=>∃ q,e=.returned (.bool q)) h (fun F hF=>(zCd hF (HA.out.errs.grown hW) 48).mono (fun e w' ⟨h1,h2,h3⟩=>⟨⟨_,h3⟩,h1,h2⟩)));have HEd:Hid (∀ w9 b1 b2 W,TwoQ A w9 b1 b2 (fun _=>False) (De.enter (De.start L) 48).1 (De.start L) W->Calls prog 35 #[.pointer (some ⟨b2,0,none⟩),.agg #[.int .i64 1,.int .i64 48,.int .i64 0,.int .i64 0]] W fun e w'=>(∃ v,e=.returned v)/\TwoQ A w9 b1 b2 (fun _=>False) (De.enter (De.start L) 48).1 (De.enter (De.start L) 48).1 w'/\∀ k,False->w'.heap[k]?=W.heap[k]?):=hid (fun w9 b1 b2 W h=>TwoQ.doc (P:=fun e=>∃ v,e=.returned v) h (fun F hF=>(zDe hF 1 48 0 0 (by omega) (by have:=hls.lev;omega) hls.top).mono (fun e w' hp=>by
     obtain⟨a,c,S,he,_⟩:=hp.ans;have hr:=hp.rd;rw[zBs]at hr;exact⟨⟨_,he⟩,hp.upto,hr⟩)))
    obtain⟨s0,hs0⟩:∃ s0,s0=(De.enter (De.start L) 48).1:=⟨_,rfl⟩
    rw[<-hs0]at HS0 HEn HEd;clear hs0 hls;clear hL hN hL2;go_wp2_with (first
     |(go_at_call 29;refine(HC.out _ HT.out).mono ?_;rintro e w5 ⟨rfl,hT5,-⟩;have T5:=hid hT5;clear hT5)
     |(go_at_call 25;refine(HC2.out _ T5.out).mono ?_;rintro e w6 ⟨rfl,hT6,-⟩;have T6:=hid hT6;clear hT6)
     |(go_at_call 30;refine(HD1.out _ T6.out).mono ?_;rintro e w7 ⟨hg7,a7,c7,rfl,hb7,hw7⟩;rw[<-HN.out]at hb7 hw7 ⊢;have T7:=hid (zBu (B':=fun _=>False) T6.out hg7 (fun k hk=>hk.elim));have B7:=hid hb7;have W7:=hid hw7;clear hg7 hb7 hw7)
     |(go_at_call 31;refine(HD2.out _ T7.out).mono ?_;rintro e w8 ⟨hg8,u8,rfl,hf8⟩;have T8:=hid (zBu (B':=fun _=>False) T7.out hg8 (fun k hk=>hk.elim));have B8:=hid (B7.out.grown hg8);have U8:=hid (Bytes.own hf8.own B7.out.lt);have V8:=hid (Whole0.own hf8.own);obtain⟨ua,ug,uc,rfl,-⟩:=zAp hf8.own;rw[<-HN.out]at U8 V8 ⊢;have HGw:=hid (zAb HG2.out T8.out.base);have HNu:=hid (zGP A 0 (by decide) w8 (HA.out.errs.grown HGw.out));clear hg8 hf8)
     |(go_at_call 13;refine HNu.out.mono ?_;rintro e w9 ⟨rfl,hg9⟩;have G9:=hid (zAb HGw.out hg9);have B9:=hid (B8.out.grown hg9);have U9:=hid (U8.out.grown hg9);have cv:=zAS (P:=prog) (B8.out.grown hg9) 33 5 9 underlying33 underlying5 underlying9;have cv2:=zAS (P:=prog) (U8.out.grown hg9) 33 5 9 underlying33 underlying5 underlying9;clear hg9)
     |(go_at_call 32;refine(HRd.out _ _ _ G9.out B9.out W7.out).mono ?_;rintro e w10 ⟨b1,rfl,hg10,h10⟩;have G10:=hid hg10;have P10:=hid h10;clear hg10 h10)
     |(go_at_call 33;refine(HRf.out w9 _ _ _ G10.out U9.out V8.out).mono ?_;rintro e w11 ⟨b2,rfl,hg11,h11⟩;have Q11:Hid (TwoQ A w9 b1 b2 (fun _=>False) (De.start L) (De.start L) w11):=hid ⟨_,_,P10.out.still hg11,h11,(fun k hk hf=>by
       rcases hf with hf|hf
       ·exact hf
       ·have:=hk.2;omega),fun k hk=>hk.elim⟩;clear hg11 h11)
     |(go_at_call 34;refine(HEn.out _ _ _ _ G9.out Q11.out).mono ?_;rintro e w12 ⟨⟨q12,rfl⟩,h12,-⟩;have Q12:=hid h12;clear h12)
     |(go_at_call 35;refine(HEd.out _ _ _ _ Q12.out).mono ?_;rintro e w13 ⟨⟨v13,rfl⟩,h13,-⟩;have Q13:=hid h13;clear h13))
    have hj12:j<=12:=H12.out;obtain⟨wo,rfl⟩:∃ wo:World,wo=wr:=⟨_,rfl⟩
    go_loopw [110] (fun i wr=>∃ (q:Nat),q<=j+1/\i=.int .i64 q/\TwoQ A w9 b1 b2 (fun _=>False) (rdN s0 q) (rdN s0 q) wr) (fun i _=>(j+1)-(intOf i).toNat)
    case atStart=>exact⟨0,Nat.zero_le _,rfl,Q13.out⟩
    case round =>
     obtain⟨q,hq,rfl,hQ⟩:=hrel;have HQ:=hid hQ;have HGQ:Hid (w.grownBy w9 none):=hid G9.out;have HR9:=hid (HR.out.up G9.out);have HW9:=hid (HWd.out.grown G9.out);clear hQ;by_cases hqn:q<j+1
     ·have hleft:=zEj HS0.out q;obtain⟨s,hs⟩:∃ s,s=rdN s0 q:=⟨_,rfl⟩
      have hsx:rdN s0 (q+1)=(getN (Na.getS s).1).1:=by rw[hs];rfl
      have HSx:=hid hsx;rw[<-hs]at hleft HQ;have hl1:=hleft.getS;have hl2:=hl1.said 3 0 (-1000) 1000 (by decide) (by decide);have hGt:∀ W,TwoQ A w9 b1 b2 (fun _=>False) s s W->Calls prog 36 #[.pointer (some ⟨b1,0,none⟩)] W fun e w'=>e=.returned (Na.val (Na.getS s).2)/\TwoQ A w9 b1 b2 (fun _=>False) (Na.getS s).1 s w'/\∀ k,False->w'.heap[k]?=W.heap[k]?:=fun W h=>TwoQ.prog (P:=fun e=>e=.returned (Na.val (Na.getS s).2)) h (fun F hF=>zKg hF HR9.out HW9.out hleft)
      have hGd:∀ B W,TwoQ A w9 b1 b2 B (getN (Na.getS s).1).1 s W->Calls prog 38 #[.pointer (some ⟨b2,0,none⟩)] W fun e w'=>e=.returned (Na.val (Na.getS s).2)/\TwoQ A w9 b1 b2 B (getN (Na.getS s).1).1 (Na.getS s).1 w'/\∀ k,B k->w'.heap[k]?=W.heap[k]?:=fun B W h=>TwoQ.doc (P:=fun e=>e=.returned (Na.val (Na.getS s).2)) h (fun F hF=>zFY hF hleft (by omega))
      have HIn:Hid (∀ W,TwoQ A w9 b1 b2 (fun _=>False) (Na.getS s).1 s W->Calls prog 37 #[.pointer (some ⟨b1,0,none⟩),.int .i64 (-1000),.int .i64 1000] W fun e w'=>e=.returned (.int .i64 (getN (Na.getS s).1).2)/\TwoQ A w9 b1 b2 (fun _=>False) (getN (Na.getS s).1).1 s w'/\∀ k,False->w'.heap[k]?=W.heap[k]?):=hid (fun W h=>TwoQ.prog (P:=fun e=>e=.returned (.int .i64 (getN (Na.getS s).1).2)) h (fun F hF=>zMM hF HR9.out.errs));have HDn:Hid (∀ B W,TwoQ A w9 b1 b2 B (getN (Na.getS s).1).1 (Na.getS s).1 W->Calls prog 35 #[.pointer (some ⟨b2,0,none⟩),.agg #[.int .i64 3,.int .i64 0,.int .i64 (-1000),.int .i64 1000]] W fun e w'=>(∃ y2 y3 y4,e=.returned (.agg #[.int .i64 0,.int .i64 (getN (Na.getS s).1).2,y2,y3,y4]))/\TwoQ A w9 b1 b2 B (getN (Na.getS s).1).1 (getN (Na.getS s).1).1 w'/\∀ k,B k->w'.heap[k]?=W.heap[k]?):=hid (fun B W h=>TwoQ.doc (P:=fun e=>∃ y2 y3 y4,e=.returned (.agg #[.int .i64 0,.int .i64 (getN (Na.getS s).1).2,y2,y3,y4])) h (fun F hF=>zMZ hF (by have:=hl1.lev;omega) hl1.top));have he28:(getN (Na.getS s).1).1.e<=28:=hl2.e28;have HGt:=hid hGt;have HGe:=hid hGd;clear hGt hGd hleft hl1 hl2 hsx hs;generalize (getN (Na.getS s).1).2=v at *;generalize (getN (Na.getS s).1).1=s2 at *;generalize (Na.getS s).1=s1 at *;generalize (Na.getS s).2=x at *;have hv:Na.val x=.agg #[.int .i64 x.k,.string x.sp,.string x.nm]:=rfl;rw[hv]at HGt HGe;generalize x.k=k at *;generalize x.sp=sp at *;generalize x.nm=nm at *;clear hv;have HErr:Hid (∀ B W,TwoQ A w9 b1 b2 B s2 s2 W->Calls prog 39 #[.pointer (some ⟨b1,0,none⟩)] W fun e w'=>∃ v,e=.returned v/\W.grownBy w' none/\isV (zAu A s2.e) v w'):=hid (fun B W ⟨F1,F2,h1,_⟩=>(zCM h1).mono (fun e w' ⟨e1,e2⟩=>⟨_,e1,by rw[e2];exact zAa _ _,rfl⟩));have HCe:Hid (∀ B W,TwoQ A w9 b1 b2 B s2 s2 W->W.cell? ⟨b2,1,none⟩=some (.int .i64 (s2.e:Nat))):=hid (fun B W ⟨F1,F2,_,h2,_⟩=>by
       obtain⟨lv,h3,_⟩:=h2.body;exact cell_blk h3 1 rfl)
      have HN28:=hid he28;have hfd:∀ y2 y3 y4 w,(Instr.field 63 (.agg #[.int .i64 0,.int .i64 v,y2,y3,y4]) 1).run prog w=.ok (.int .i64 v) w:=fun y2 y3 y4 w=>zIu v y2 y3 y4 w
      clear he28;go_wp2_with (first
       |(go_at_call 36;refine(HGt.out _ HQ.out).mono ?_;rintro e w14 ⟨rfl,h14,-⟩;have Q14:=hid h14;clear h14)
       |(go_at_call 37;refine(HIn.out _ Q14.out).mono ?_;rintro e w15 ⟨rfl,h15,-⟩;have Q15:=hid (TwoQ.keep (B':=fun k=>k=w15.heap.size) h15 (World.grownBy_alloc w15 (.cells #[.int .i64 k,.string sp,.string nm] 23) none) (fun k hk=>.inr ⟨by rw[hk];exact Nat.le_refl _,by rw[hk,zAe];exact Nat.lt_succ_self _⟩));have B15:=hid (alloc_at w15 (.cells #[.int .i64 k,.string sp,.string nm] 23));clear h15)
       |(go_at_call 38;refine(HGe.out _ _ Q15.out).mono ?_;rintro e w16 ⟨rfl,h16,hb16⟩;have B16:=hid (zAt (o:=.cells #[.int .i64 k,.string sp,.string nm] 23) ((hb16 _ rfl).trans B15.out));have C16:=hid (alloc_at w16 (.cells #[.int .i64 k,.string sp,.string nm] 23));have Q16:=hid (TwoQ.keep (B':=fun k=>k=w15.heap.size∨k=w16.heap.size) h16 (World.grownBy_alloc w16 (.cells #[.int .i64 k,.string sp,.string nm] 23) none) (fun k hk=>by
         rcases hk with hk|hk
         ·exact .inl hk
         ·exact .inr ⟨by rw[hk];exact Nat.le_refl _,by rw[hk,zAe];exact Nat.lt_succ_self _⟩));clear h16 hb16)
       |(go_at_call 35;refine(HDn.out _ _ Q16.out).mono ?_;rintro e w17 ⟨⟨y2,y3,y4,rfl⟩,h17,hb17⟩;have B17:=hid ((hb17 _ (.inl rfl)).trans B16.out);have C17:=hid ((hb17 _ (.inr rfl)).trans C16.out);have Q17:=hid h17;clear h17 hb17))
      refine zGd _ b1 b2 w15.heap.size w16.heap.size v s2.e (zAu A s2.e) #[.int .i64 k,.string sp,.string nm] w17 _ _ rfl rfl rfl rfl rfl rfl rfl
       (fun W hW=>HErr.out (fun _=>False) W (Q17.out.keep hW (fun k hk=>hk.elim))) (fun W hW=>zMP HN28.out (HR9.out.errs.grown (zAb Q17.out.base hW))) (fun W hW=>HCe.out (fun _=>False) W (Q17.out.keep hW (fun k hk=>hk.elim))) (fun W hW=>zAr B17.out hW) (fun W hW=>zAr C17.out hW) HI3.out (zMp k sp nm) (zAd (zAa _ _) 1) (fun us w18 hg18=>?_)
      simp only[zAA,zAN,Act.put,List.setIfInBounds_toArray,List.set_cons_succ,List.set_cons_zero];have G18:=hid hg18;clear hg18;go_wp2
      go_roundw
      case rel=>exact⟨q+1,by omega,by go_num,by rw[HSx.out];exact Q17.out.keep G18.out (fun k hk=>hk.elim)⟩
      case measure=>simp[intOf];omega
     ·obtain rfl:q=j+1:=by omega
      have hleft:=zEj HS0.out (j+1);have hl2:=hleft.leave;obtain⟨s,hs⟩:∃ s,s=rdN s0 (j+1):=⟨_,rfl⟩
      rw[<-hs]at hleft hl2 HQ;have HLv:Hid (∀ W,TwoQ A w9 b1 b2 (fun _=>False) s s W->Calls prog 40 #[.pointer (some ⟨b1,0,none⟩)] W fun e w'=>e=.returned (.tuple #[])/\TwoQ A w9 b1 b2 (fun _=>False) (De.leave s) s w'/\∀ k,False->w'.heap[k]?=W.heap[k]?):=hid (fun W h=>TwoQ.prog (P:=fun e=>e=.returned (.tuple #[])) h (fun F hF=>zCc hF HR9.out.errs));have HDl:Hid (∀ W,TwoQ A w9 b1 b2 (fun _=>False) (De.leave s) s W->Calls prog 35 #[.pointer (some ⟨b2,0,none⟩),.agg #[.int .i64 2,.int .i64 0,.int .i64 0,.int .i64 0]] W fun e w'=>(∃ v,e=.returned v)/\TwoQ A w9 b1 b2 (fun _=>False) (De.leave s) (De.leave s) w'/\∀ k,False->w'.heap[k]?=W.heap[k]?):=hid (fun W h=>TwoQ.doc (P:=fun e=>∃ v,e=.returned v) h (fun F hF=>(zDe hF 2 0 0 0 (by omega) (by have:=hleft.lev;omega) hleft.top).mono (fun e w' hp=>by
       obtain⟨a,c,S,he,_⟩:=hp.ans;have hr:=hp.rd;rw[zBL]at hr;exact⟨⟨_,he⟩,hp.upto,hr⟩)))
      have hf28:De.fin (De.leave s)<=28:=De.fin_e28 hl2.e28;generalize De.leave s=sl at *;have HEp:Hid (∀ W,TwoQ A w9 b1 b2 (fun _=>False) sl sl W->Calls prog 41 #[.pointer (some ⟨b1,0,none⟩)] W fun e w'=>e=.returned (zAu A (De.fin sl))/\w'=W):=hid (fun W ⟨F1,F2,h1,_⟩=>zIO h1 HR9.out.errs);have HEq:Hid (∀ W,TwoQ A w9 b1 b2 (fun _=>False) sl sl W->Calls prog 42 #[.pointer (some ⟨b2,0,none⟩)] W fun e w'=>e=.returned (.int .i64 (De.fin sl:Nat))/\W.grownBy w' none):=hid (fun W ⟨F1,F2,_,h2,_⟩=>zHq h2);have HNe:Hid (∀ W,w9.grownBy W none->Calls prog 13 #[zAu A (De.fin sl)] W fun e w'=>e=.returned (.int .i64 (De.fin sl:Nat))/\W.grownBy w' none):=hid (fun W hW=>zGP A _ hf28 W (HR9.out.errs.grown hW));generalize zAu A (De.fin sl)=ev at *;generalize De.fin sl=fs at *;clear hleft hl2 hs hf28;go_wp2_with (first
       |(go_at_call 40;refine(HLv.out _ HQ.out).mono ?_;rintro e w14 ⟨rfl,h14,-⟩;have Q14:=hid h14;clear h14)
       |(go_at_call 35;refine(HDl.out _ Q14.out).mono ?_;rintro e w15 ⟨⟨v15,rfl⟩,h15,-⟩;have Q15:=hid h15;clear h15)
       |(go_at_call 41;refine(HEp.out _ Q15.out).mono ?_;rintro e w16 ⟨rfl,rfl⟩)
       |(go_at_call 13;refine(HNe.out _ Q15.out.base).mono ?_;rintro e w17 ⟨rfl,hg17⟩;have Q17:=hid (TwoQ.keep (B':=(fun _=>False)) Q15.out hg17 (fun k hk=>hk.elim));clear hg17)
       |(go_at_call 42;refine(HEq.out _ Q17.out).mono ?_;rintro e w18 ⟨rfl,hg18⟩;have G18:=hid (zAb Q17.out.base hg18);clear hg18))
      go_ret
      exact⟨rfl,zAb G9.out G18.out⟩
   ·rw[hL]at HD1 HD2;clear hL;have cv0:∀ W,(convert 33 9 (.slice none 0 0)).run prog W=.ok (.string (strOf [])) W:=fun W=>zAS (zHX W) _ 5 _ underlying33 underlying5 underlying9
    go_wp2_with (first
     |(go_at_call 29;refine(HC.out _ HT.out).mono ?_;rintro e w5 ⟨rfl,hT5,-⟩;have T5:=hid hT5;clear hT5)
     |(go_at_call 25;refine(HC2.out _ T5.out).mono ?_;rintro e w6 ⟨rfl,hT6,-⟩;have T6:=hid hT6;clear hT6)
     |(go_at_call 30;refine(HD1.out _ T6.out).mono ?_;rintro e w7 ⟨hg7,rfl⟩;have T7:=hid (zBu (B':=fun _=>False) T6.out hg7 (fun k hk=>hk.elim));clear hg7)
     |(go_at_call 31;refine(HD2.out _ T7.out).mono ?_;rintro e w8 ⟨hg8,rfl⟩;have T8:=hid (zBu (B':=fun _=>False) T7.out hg8 (fun k hk=>hk.elim));have HNu:=hid (zGP A 9 (by decide) w8 (HA.out.errs.grown (zAb HG2.out T8.out.base)));clear hg8)
     |(go_at_call 13;refine HNu.out.mono ?_;rintro e w9 ⟨rfl,hg9⟩;have G9:=hid hg9;clear hg9))
    go_ret
    exact⟨rfl,zAb (zAb HG2.out T8.out.base) G9.out⟩
theorem zDy (A:Nat->Addr) (la na:Option Addr) (lsb lso ln lc nn nc:Nat) (xs:List Na.Sb) (ns:List Int) (w:World) (hA:BodiesOf A w) (hR:RdN A w) (hWd:Words w)
  (hxn:xs.length=ln) (hla:0<ln->la=some ⟨lsb,lso,none⟩/\lsb<w.heap.size) (hX:zL3 w lsb lso xs) (hk:∀ x∈xs,i64 x.k) (hN:Ints w (.slice na nn nc) ns) (hni:∀ z∈ns,De.I64 z) :
  Calls prog 5 #[.slice la ln lc,.slice na nn nc] w fun e w'=>e=.returned (.bool true)/\w.grownBy w' none:=by
 by_cases h:12<ln∨12<nn
 ·exact zC8 la na ln lc nn nc w hWd h
 have hnn:ns.length=nn:=by
  obtain⟨_,_,_,_,hv,_⟩:=hN;simp only[Value.slice.injEq]at hv;exact hv.2.1.symm
 exact zC7 A la na lsb lso ln lc nn nc xs ns w hA hR hWd hxn hla hX hk hN hnn hni (by omega) (by omega)
open Go.ChangeShapes Go.WideShapes Go.ChangeAt Go.RowKit
theorem zK9 {W:World} {L:List (String×DataW Unit)} (h:laidMet prog L W) (hm:("internal/strconv.uint64pow10",(Rows.laid_internal_strconv_uint64pow10:DataW Unit))∈L):Tab10 W:=by
 obtain⟨ps,hV,hnd,hrows⟩:=h;refine⟨?_⟩;obtain⟨g,t,cs,fuel,p,e1,e2,e3,e4⟩:=zEr hV hm;obtain rfl:=Option.some.inj (gPow.symm.trans e1);obtain rfl:=Option.some.inj (tPow.symm.trans e2);rw[dPow]at e4;unfold Lib.TabIs;rw[e3,<-Lib.cells_of_tab underlying274 underlying189 cU64 c20 e4]
abbrev zDz:List (String×DataW Unit):=("math/bits.deBruijn32tab",Rows.laid_math_bits_deBruijn32tab) ::("math/bits.deBruijn64tab",Rows.laid_math_bits_deBruijn64tab) ::("internal/strconv.uint64pow10",Rows.laid_internal_strconv_uint64pow10) ::("unicode/utf8.acceptRanges",Rows.laid_unicode_utf8_acceptRanges) ::
 (laids28++[("strconv.ErrRange",Rows.laid_strconv_ErrRange),("strconv.ErrSyntax",Rows.laid_strconv_ErrSyntax),("bulla/names.words",Rows.laid_bulla_names_words),("unicode/utf8.first",Rows.laid_unicode_utf8_first)])
theorem zLi {W:World} (h:laidMet prog zDz W):∃ A,BodiesOf A W/\RdN A W/\Words W:=by
 obtain⟨A,hE⟩:=zH2 h (List.range' 4 28) rfl (by decide);obtain⟨tp,p,hF⟩:=zKt h 33 rfl (.tail _ (.tail _ (.head _)));have hT:=zK9 h (.tail _ (.tail _ (.head _)));have hWd:=zJS h (.tail _ (.tail _ (.tail _ (.tail _ (List.mem_append_right _ (.tail _ (.tail _ (.head _))))))));have hU:=zMG h (.tail _ (.tail _ (.tail _ (.tail _ (List.mem_append_right _ (.tail _ (.tail _ (.tail _ (.head _)))))))))
  (.tail _ (.tail _ (.tail _ (.head _))))
 exact⟨A,{ errs:=hE,texts:=zJP A W hE (zE9 W hU),oid:=zLx A tp p W hF hE.rf },⟨hE,zJR A W hE (zE9 W hU),zKm A W hT hE.sf⟩,hWd⟩
end Go.Proofs.YtijkaknggdaajaaGreatDoor
