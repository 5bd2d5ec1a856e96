import Derived.Test.YtijkaknggdaajaaGreatDoorZr03
import Derived.Test.YtijkaknggdaajaaGreatDoorZr26
import Derived.Test.YtijkaknggdaajaaGreatDoorZr27
set_option linter.unusedVariables false
set_option linter.unusedSimpArgs false
set_option maxRecDepth 100000
set_option maxHeartbeats 2000000
namespace Go.Proofs.YtijkaknggdaajaaGreatDoor
open Lib (hid)
open Go.RowKit
structure FrE (w w':World) (v:Value) (ps:List (Nat×List Nat)):Prop where
 grown:w.grownBy w' none
 rows:∃ xs,w'.ownsRow w.heap.size 163 2 v ps.length xs∧∀ j,j<ps.length→∃ y,xs[2*j]?=some (.int .i64 ((ps.getD j (0,[])).1:Nat))∧xs[2*j+1]?=some y∧w'.ownsRow w.heap.size 5 1 y (ps.getD j (0,[])).2.length (cellsL (ps.getD j (0,[])).2)∧∀ z∈(ps.getD j (0,[])).2,z<256
theorem FrE.nil (w:World):FrE w w (.slice none 0 0) []:=⟨grown_refl _ _,[],⟨rfl,.inl ⟨rfl,rfl⟩⟩,fun j hj=>absurd hj (Nat.not_lt_zero _)⟩
theorem FrE.to {w w1 w2:World} {v:Value} {ps:List (Nat×List Nat)} (h:FrE w w1 v ps) (hg:w1.grownBy w2 none):FrE w w2 v ps:=by
 obtain ⟨xs,h1,h2⟩:=h.rows
 refine ⟨grown_trans h.grown hg,xs,h1.kept hg (Classical.em _),fun j hj=>?_⟩
 obtain ⟨y,k1,k2,k3,k4⟩:=h2 j hj
 exact ⟨y,k1,k2,k3.kept hg (Classical.em _),k4⟩
theorem FrE.step {w w1 w2:World} {v v' u:Value} {ps:List (Nat×List Nat)} {t:Nat} {l:List Nat} {xs:List Value} (h:FrE w w1 v ps)
  (hx:w1.ownsRow w.heap.size 163 2 v ps.length xs) (hxj:∀ j,j<ps.length→∃ y,xs[2*j]?=some (.int .i64 ((ps.getD j (0,[])).1:Nat))∧xs[2*j+1]?=some y∧w1.ownsRow w.heap.size 5 1 y (ps.getD j (0,[])).2.length (cellsL (ps.getD j (0,[])).2)∧∀ z∈(ps.getD j (0,[])).2,z<256)
  (hu:w1.ownsRow w.heap.size 5 1 u l.length (cellsL l)) (hl:∀ z∈l,z<256)
  (ho:w2.ownsRow w.heap.size 163 2 v' (ps.length+1) (xs++[.int .i64 (t:Int),u])) (hg:w1.grownBy w2 v.ownBlock):FrE w w2 v' (ps++[(t,l)]):=by
 have hne:∀ {y:Value} {n:Nat} {zs:List Value},w1.ownsRow w.heap.size 5 1 y n zs→w2.ownsRow w.heap.size 5 1 y n zs:=fun {y n zs} hy=>by
  refine hy.kept hg ?_
  cases hyb:y.ownBlock with
  |none=>exact .inl rfl
  |some k=>exact .inr (fun e=>rows_unlike hy hx (by decide) hyb e.symm)
 refine ⟨grown_own h.grown hx (Nat.le_refl _) hg,_,by simpa using ho,fun j hj=>?_⟩
 have hxl:xs.length=ps.length*2:=hx.1
 by_cases e:j=ps.length
 ·subst e
  refine ⟨u,?_,?_,?_,?_⟩
  ·rw[List.getElem?_append_right (by omega),hxl,show 2*ps.length-ps.length*2=0 by omega,List.getD_eq_getElem?_getD];simp
  ·rw[List.getElem?_append_right (by omega),hxl,show 2*ps.length+1-ps.length*2=1 by omega];rfl
  ·rw[List.getD_eq_getElem?_getD];simpa using hne hu
  ·rw[List.getD_eq_getElem?_getD];simpa using hl
 ·have hj':j<ps.length:=by simp at hj;omega
  obtain ⟨y,k1,k2,k3,k4⟩:=hxj j hj'
  have eg:(ps++[(t,l)]).getD j (0,[])=ps.getD j (0,[]):=by rw[List.getD_eq_getElem?_getD,List.getElem?_append_left hj',←List.getD_eq_getElem?_getD]
  rw[eg]
  exact ⟨y,by rw[List.getElem?_append_left (by omega)];exact k1,by rw[List.getElem?_append_left (by omega)];exact k2,hne k3,k4⟩
theorem all_more {b:List Nat} {f t i n:Nat} (hf:Tl.first b=.ok (t,i,n)) (hne:b≠[]):De.all (f+1) b=match De.all f (b.drop (i+n)) with
  |.error e=>.error e
  |.ok r=>.ok ((t,(b.drop i).take n) :: r):=by rw[De.all,if_neg hne,hf];rfl
def preAll (pre:List (Nat×List Nat)):Except Nat (List (Nat×List Nat))→Except Nat (List (Nat×List Nat))
 |.error e=>.error e
 |.ok r=>.ok (pre++r)
theorem preAll_cons (pre:List (Nat×List Nat)) (p:Nat×List Nat) (r:Except Nat (List (Nat×List Nat))):preAll pre (match r with
  |.error e=>.error e
  |.ok r=>.ok (p :: r))=preAll (pre++[p]) r:=by cases r <;> simp[preAll]
theorem iTe:((Tryz.prog.info? 163).map (fun i=>(i.zero,i.size,i.bytes)))=some (some (.agg #[.int .i64 0,.slice none 0 0]),2,32):=by kernel_rfl
theorem all_nil (f:Nat):De.all f []=.ok []:=by cases f <;> simp[De.all]
theorem preAll_ok (pre r:List (Nat×List Nat)):preAll pre (.ok r)=.ok (pre++r):=rfl
def AlPost (A:Nat→Addr) (w w':World) (r:Except Nat (List (Nat×List Nat))) (e:Ending):Prop:=match r with
 |.error k=>e=.returned (.tuple #[.slice none 0 0,errV A k])∧w.grownBy w' none
 |.ok ps=>∃ v,e=.returned (.tuple #[v,.nilIface])∧FrE w w' v ps
theorem FrE.form {w w':World} {v:Value} {ps:List (Nat×List Nat)} (h:FrE w w' v ps):∃ a c,v=.slice a ps.length c:=by
 obtain ⟨xs,h1,_⟩:=h.rows
 obtain ⟨a,g,c,h2,_⟩:=own_formN h1
 exact ⟨a,c,h2⟩
theorem all_any (A:Nat→Addr) (v:Value) (l:List Nat) (w:World) (hB:Bytes w v l) (h0:Whole0 v) (hl:l.length≤1099511620000) (hE:AllErrs w A) :
  Calls Tryz.prog 73 #[v] w fun e w'=>AlPost A w w' (De.all l.length l) e:=by
 have HB:=hid hB
 have H0:=hid h0
 have HE:=hid hE
 obtain ⟨_,va,_,_,vc,rfl,_⟩:=hB
 obtain ⟨R,hR⟩:∃ R,R=De.all l.length l:=⟨_,rfl⟩
 rw[←hR]
 have HR:=hid hR
 obtain ⟨n,hn⟩:∃ n,n=l.length:=⟨_,rfl⟩
 rw[←hn] at HB H0 HR hl ⊢
 have HN:=hid hn
 have HFi:=hid (fun (a:Option Addr) (m c:Nat) (r:List Nat) (W:World) (hg:w.grownBy W none) (hb:Bytes W (.slice a m c) r) (h:Whole0 (.slice a m c)) (hr:r.length≤1099511620000)=>tlvFirst_any A (.slice a m c) r W hb h (by omega) (hE.grown hg))
 clear hR hn h0 hE
 go_enter Tryz.func73,Tryz.ntmps73
 go_wp2
 go_loopw [0,4] (fun x y wr=>∃ (a:Option Addr) (m c f:Nat) (rest:List Nat) (pre:List (Nat×List Nat)),x=.slice a m c∧m=rest.length∧m≤f∧pre.length+f≤n∧Bytes w (.slice a m c) rest∧Whole0 (.slice a m c)∧FrE w wr y pre∧R=preAll pre (De.all f rest)) (fun x _ _=>(match x with | .slice _ n _=>n|_=>0:Nat))
 case atStart=>exact ⟨va,n,vc,n,l,[],rfl,HN.out,Nat.le_refl _,by simp,HB.out,H0.out,FrE.nil w,by rw[HR.out];cases De.all n l <;> simp[preAll]⟩
 case round =>
  obtain ⟨a,m,c,f,rest,pre,rfl,hm,hmf,hpf,hb,hw0,hF,hRr⟩:=hrel
  have HF:=hid hF
  have HBr:=hid hb
  have HW0:=hid hw0
  have HG:=hid hF.grown
  obtain ⟨ya,yc,hy⟩:=hF.form
  subst hy
  by_cases hz:rest=[]
  ·subst hz
   have hm0:m=0:=hm
   subst hm0
   have HRR:Hid (R=.ok pre):=hid (by rw[hRr,all_nil,preAll_ok,List.append_nil])
   obtain ⟨k,hk⟩:∃ k,k=pre.length:=⟨_,rfl⟩
   clear hF hb hw0 hRr hpf HBr hmf hm
   go_wp2
   go_ret2
   rw[HRR.out]
   exact ⟨_,rfl,HF.out⟩
  ·have hpos:0<rest.length:=by cases rest with|nil=>exact absurd rfl hz|cons=>simp
   obtain ⟨g,rfl⟩:∃ g,f=g+1:=⟨f-1,by omega⟩
   have HFc:=hid (HFi.out a m c rest wr hF.grown (hb.grown hF.grown) hw0 (by omega))
   cases hfst:Tl.first rest with
   |error k =>
    have HRR:Hid (R=.error k):=hid (by rw[hRr,De.all,if_neg hz,hfst];rfl)
    rw[hfst] at HFc
    have zm:0<m:=by omega
    clear hF hb hw0 hRr hpf HBr hmf hm hz hpos hfst
    go_wp2_with (go_at_call 113;refine HFc.out.mono ?_;rintro e w2 ⟨rfl,hg2⟩;have G2:=hid (grown_trans HG.out hg2);clear hg2)
    first
     |go_ret2
     |(go_quiet (fail);go_wp2;go_ret2)
    rw[HRR.out]
    first
     |exact ⟨rfl,grown_alloc G2.out _⟩
     |exact ⟨rfl,grown_drewN (grown_alloc G2.out _) _⟩
   |ok p =>
    obtain ⟨t,i,n'⟩:=p
    have hi2:=Tl.first_two hfst
    have HRR:Hid (R=preAll (pre++[(t,(rest.drop i).take n')]) (De.all g (rest.drop (i+n')))):=hid (by rw[hRr,all_more hfst hz];exact preAll_cons _ _ _)
    rw[hfst] at HFc
    have zm:0<m:=by omega
    have hpl:pre.length≤1099511620000:=by omega
    have HM:=hid hm
    have HMf:=hid hmf
    have HPf:=hid hpf
    have HL:=hid hl
    have HOwn:=hid (fun v l w a b c=>own_any (t:Int) v l w a b c)
    obtain ⟨xs,hx1,hx2⟩:=hF.rows
    have HXs:=hid hx1
    have HXj:=hid hx2
    have HPl:=hid hpl
    have HI:=hid iTe
    obtain ⟨K,hK⟩:∃ K,K=pre.length:=⟨_,rfl⟩
    rw[←hK] at HXs HPl HPf
    have HK:=hid hK
    have HF2:=HF
    rw[←hK]
    clear hF hb hw0 hRr hpf hmf hm hz hpos hfst hx1 hx2 hpl hK hl
    go_wp2_with (first
     |(go_at_call 113;refine HFc.out.mono ?_;rintro e w2 ⟨⟨ab,cb,ar,m2,cr,hlen,rfl,hp1,W1,hp2,W2⟩,hg2⟩;have HG2:=hid (grown_trans HG.out hg2);have HG2b:=hid hg2;have P1:=hid (hp1 w (HBr.out));have P2:=hid (hp2 w (HBr.out));have HW1':=hid W1;have HW2':=hid W2;have HLen:=hid hlen;clear hg2 hlen hp1 hp2 W1 W2)
     |(go_at_call 114;refine (HOwn.out _ _ _ (P1.out.grown (grown_alloc HG2.out _)) HW1'.out (by rw[←P1.out.cap.1];have:=HLen.out;have:=HM.out;have:=HMf.out;have:=HPf.out;have:=HL.out;omega)).mono ?_;rintro e w4 ⟨u4,rfl,hF4,a4,c4,hu4⟩;rw[←P1.out.cap.1] at hu4;subst hu4;have F4:=hid hF4;have G4:=hid (grown_trans (grown_alloc HG2b.out _) hF4.grown);have G4w:=hid (grown_trans (grown_alloc HG2.out _) hF4.grown);have FE4:=hid (HF2.out.to G4.out);have X4:=hid ((HXs.out.kept G4.out (Classical.em _)).alloc (.cells #[.int .i64 (t:Int),.slice a4 n' c4] 163));clear hF4)
     |(at_builtin;refine wpList_appN2 (by rfl) (.tmp 20) (.tmp 23) 123 (by rfl) w.heap.size 163 (.agg #[.int .i64 0,.slice none 0 0]) 2 32 Tryz.underlying123 HI.out rfl (by decide) (by decide) _ K xs (by rfl) X4.out ⟨_,0,none⟩ 1 _ [.int .i64 (t:Int),.slice a4 n' c4] (by rfl) rfl (by intro j u hj;rw[addr_addO,Nat.zero_add];exact cell_blk (alloc_at _ _) j (by simpa using hj)) (by intro u hu;simp at hu;rcases hu with rfl|rfl <;> rfl) (by have:=HPl.out;omega) (by have:=G4w.out.size;rw[alloc_size];omega) ?_;intro v' w5 ho5 hg5;intro hv5;have O5:=hid ho5;have G5:=hid hg5;clear ho5 hg5 hv5))
    have hm2:=P2.out.cap.1
    have FE5:FrE w w5 v' (pre++[(t,(rest.drop i).take n')]):=by
     refine FrE.step (FE4.out.to (World.grownBy_alloc w4 (.cells #[.int .i64 (t:Int),.slice a4 n' c4] 163) none)) (by rw[←HK.out];exact X4.out) (fun j hj=>?_) (ownsRow_low (F4.out.own.alloc _) (by have:=HG2.out.size;rw[alloc_size];omega)) P1.out.lt (by rw[←HK.out];exact O5.out) (by rw[←HK.out];exact G5.out)
     obtain ⟨y,k1,k2,k3,k4⟩:=HXj.out j hj
     exact ⟨y,k1,k2,(k3.kept G4.out (Classical.em _)).alloc _,k4⟩
    refine ⟨⟨ar,m2,cr,g,_,_,rfl,hm2,?_,?_,P2.out,HW2'.out,FE5,HRR.out⟩,?_⟩
    ·have:=HLen.out;have:=HM.out;have:=HMf.out;omega
    ·rw[List.length_append,←HK.out];have:=HPf.out;simp;omega
    ·show m2<m
     have:=HLen.out;have:=HM.out;omega
end Go.Proofs.YtijkaknggdaajaaGreatDoor
