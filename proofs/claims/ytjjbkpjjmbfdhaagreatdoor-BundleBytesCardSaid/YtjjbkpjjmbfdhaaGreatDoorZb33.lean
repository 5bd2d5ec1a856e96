import Derived.Test.YtjjbkpjjmbfdhaaGreatDoorZb01
import Derived.Test.YtjjbkpjjmbfdhaaGreatDoorZb03
import Derived.Test.YtjjbkpjjmbfdhaaGreatDoorZb09
import Derived.Test.YtjjbkpjjmbfdhaaGreatDoorZb13
import Derived.Test.YtjjbkpjjmbfdhaaGreatDoorZb23
import Derived.Test.YtjjbkpjjmbfdhaaGreatDoorZb24
import Derived.Test.YtjjbkpjjmbfdhaaGreatDoorZb28
import Derived.Test.YtjjbkpjjmbfdhaaGreatDoorZb32
import Derived.Deep.RegionWith
import Derived.BigQuiet
set_option linter.unusedVariables false
set_option linter.unusedSimpArgs false
set_option maxRecDepth 100000
set_option maxHeartbeats 4000000
namespace Go.Proofs.YtjjbkpjjmbfdhaaGreatDoor
open Lib (hid)
open Go.RowKit
theorem ownsRow_but {w W:World} {base b:Nat} {e:TypeId} {size:Nat} {v:Value} {n:Nat} {xs:List Value} (h:w.ownsRow base e size v n xs) (hW:w.grownBy W (some b)) (hb:b<base):W.ownsRow base e size v n xs:=by
 refine ⟨h.1,?_⟩
 rcases h.2 with h1|⟨g,cap,cur,h1,h2,h3,h4⟩
 ·exact .inl h1
 ·exact .inr ⟨g,cap,cur,h1,h2,(hW.block g (blk_lt h3) (by simp;omega)).trans h3,h4⟩
theorem grown_row2 (w:World) (b:Nat) (v u:Value):w.grownBy ((w.setCell ⟨b,0,none⟩ v).setCell ⟨b,1,none⟩ u) (some b):=grown_set (p:=⟨b,1,none⟩) (grown_set (p:=⟨b,0,none⟩) (grown_refl _ _) (.inr rfl) _) (.inr rfl) _
theorem own_any (t:Int) (v:Value) (l:List Nat) (w:World) (hB:Bytes w v l) (h0:Whole0 v) (hl:l.length≤1099511620000) :
  Calls Tryz.prog 115 #[.agg #[.int .i64 t,v]] w fun e w'=>∃ u,e=.returned (.agg #[.int .i64 t,u])∧FrW w w' u l∧∃ a c,u=.slice a l.length c:=by
 have HB:=hid hB
 have H0:=hid h0
 obtain ⟨_,va,vsb,vso,vc,rfl,_⟩:=hB
 obtain ⟨n,hn⟩:∃ n,n=l.length:=⟨_,rfl⟩
 have HN:=hid hn
 rw[←hn] at HB H0 hl ⊢
 obtain ⟨w2,hw2⟩:∃ w2,w2=(w.alloc (.cells #[.int .i64 t,.slice va n vc] 148)).alloc (.cells #[.int .i64 0,.slice none 0 0] 148):=⟨_,rfl⟩
 have G2:Hid (w.grownBy w2 none):=hid (by rw[hw2];exact grown_alloc (World.grownBy_alloc _ _ _) _)
 have hbx:w2.heap[w.heap.size]?=some (.cells #[.int .i64 t,.slice va n vc] 148 (0,0)):=by rw[hw2];exact alloc2_old _ _ _
 have hbr:w2.heap[w.heap.size+1]?=some (.cells #[.int .i64 0,.slice none 0 0] 148 (0,0)):=by rw[hw2];exact alloc2_new _ _ _
 obtain ⟨g,hg⟩:∃ g,g=w.heap.size:=⟨_,rfl⟩
 rw[←hg] at hbx hbr
 have HBx:Hid (∀ W,w2.grownBy W none→W.cell? ⟨g,0,none⟩=some (.int .i64 t)∧W.cell? ⟨g,1,none⟩=some (.slice va n vc)∧W.heap[g+1]?=some (.cells #[.int .i64 0,.slice none 0 0] 148 (0,0))):=hid (fun W hW=>by
  have hbW:=(hW.block _ (blk_lt hbx) (by simp)).trans hbx
  exact ⟨cell_blk hbW 0 rfl,cell_blk hbW 1 rfl,(hW.block _ (blk_lt hbr) (by simp)).trans hbr⟩)
 have HW2:=hid hw2
 have HG:=hid hg
 have HGl:=hid (show w.heap.size≤g+1 by omega)
 have HG2:=hid (show g+1<w2.heap.size from blk_lt hbr)
 obtain ⟨s0,s1,s2⟩:=HBx.out w2 (grown_refl _ _)
 have HCl:=hid (fun W (hW:w2.grownBy W none)=>clone_any _ l W (HB.out.grown (grown_trans G2.out hW)) H0.out (by rw[←HN.out];exact hl))
 clear h0 hn hw2 hg hbx hbr s2
 have HE1:Hid (∀ (w3:World) (a3:Option Addr) (c3:Nat),w3.heap[g+1]?=some (.cells #[.int .i64 0,.slice none 0 0] 148 (0,0))→∀ (tmps:Array Value),tmps.getD 2 undef=.pointer (some ⟨g+1,0,none⟩) →
   (results Tryz.f115 tmps).run Tryz.prog ((w3.setCell ⟨g+1,0,none⟩ (.int .i64 t)).setCell ⟨g+1,1,none⟩ (.slice a3 l.length c3))=.ok (.agg #[.int .i64 t,.slice a3 l.length c3]) ((w3.setCell ⟨g+1,0,none⟩ (.int .i64 t)).setCell ⟨g+1,1,none⟩ (.slice a3 l.length c3))):=hid (fun w3 a3 c3 K2 tmps h2 =>
  results_cell_row Tryz.results115 _ _ (g+1) _ _ (0,0) _ h2 (set2_heap K2 _ _) Tryz.underlying148 rfl elI)
 have HE2:Hid (∀ (w3:World) (a3:Option Addr) (c3:Nat),w2.grownBy w3 none→w3.ownsRow w2.heap.size 5 1 (.slice a3 l.length c3) l.length (cellsL l) →
   FrW w ((w3.setCell ⟨g+1,0,none⟩ (.int .i64 t)).setCell ⟨g+1,1,none⟩ (.slice a3 l.length c3)) (.slice a3 l.length c3) l):=hid (fun w3 a3 c3 G3 F3 =>
  ⟨grown_set2 (grown_trans G2.out G3) HGl.out _ _,ownsRow_low (ownsRow_but F3 (grown_row2 _ _ _ _) HG2.out) G2.out.size⟩)
 go_enter Tryz.func115,Tryz.ntmps115
 go_wp2
 rw[←HW2.out,←HG.out]
 go_region_with (go_at_call 70;refine (HCl.out _ (grown_drew (grown_refl _ _))).mono ?_;rintro e w3 ⟨u,rfl,hF3,a3,c3,rfl⟩;have G3:=hid (grown_trans (grown_drew (grown_refl w2 none)) hF3.grown);have F3:=hid hF3.own;obtain ⟨k0,k1,k2⟩:=HBx.out w3 G3.out;have c30:=cell_blk k2 0 rfl;have c31:=cell_blk k2 1 rfl;have f30:=free_blk k2 0;have f31:=free_blk k2 1;have K2:=hid k2;clear hF3 k2)
 all_goals (
  go_wp2
  exact bodyPost_ret (HE1.out _ _ _ K2.out _ (by rfl)) rfl ⟨_,rfl,HE2.out _ _ _ G3.out F3.out,_,_,by rw[HN.out]⟩)
structure FrE (w w':World) (v:Value) (ps:List (Nat×List Nat)):Prop where
 grown:w.grownBy w' none
 rows:∃ xs,w'.ownsRow w.heap.size 148 2 v ps.length xs∧∀ j,j<ps.length→∃ y,xs[2*j]?=some (.int .i64 ((ps.getD j (0,[])).1:Nat))∧xs[2*j+1]?=some y∧w'.ownsRow w.heap.size 5 1 y (ps.getD j (0,[])).2.length (cellsL (ps.getD j (0,[])).2)∧∀ z∈(ps.getD j (0,[])).2,z<256
theorem FrE.nil (w:World):FrE w w (.slice none 0 0) []:=⟨grown_refl _ _,[],⟨rfl,.inl ⟨rfl,rfl⟩⟩,fun j hj=>absurd hj (Nat.not_lt_zero _)⟩
theorem FrE.to {w w1 w2:World} {v:Value} {ps:List (Nat×List Nat)} (h:FrE w w1 v ps) (hg:w1.grownBy w2 none):FrE w w2 v ps:=by
 obtain ⟨xs,h1,h2⟩:=h.rows
 refine ⟨grown_trans h.grown hg,xs,h1.kept hg (Classical.em _),fun j hj=>?_⟩
 obtain ⟨y,k1,k2,k3,k4⟩:=h2 j hj
 exact ⟨y,k1,k2,k3.kept hg (Classical.em _),k4⟩
theorem FrE.step {w w1 w2:World} {v v' u:Value} {ps:List (Nat×List Nat)} {t:Nat} {l:List Nat} {xs:List Value} (h:FrE w w1 v ps)
  (hx:w1.ownsRow w.heap.size 148 2 v ps.length xs) (hxj:∀ j,j<ps.length→∃ y,xs[2*j]?=some (.int .i64 ((ps.getD j (0,[])).1:Nat))∧xs[2*j+1]?=some y∧w1.ownsRow w.heap.size 5 1 y (ps.getD j (0,[])).2.length (cellsL (ps.getD j (0,[])).2)∧∀ z∈(ps.getD j (0,[])).2,z<256)
  (hu:w1.ownsRow w.heap.size 5 1 u l.length (cellsL l)) (hl:∀ z∈l,z<256)
  (ho:w2.ownsRow w.heap.size 148 2 v' (ps.length+1) (xs++[.int .i64 (t:Int),u])) (hg:w1.grownBy w2 v.ownBlock):FrE w w2 v' (ps++[(t,l)]):=by
 have hne:∀ {y:Value} {n:Nat} {zs:List Value},w1.ownsRow w.heap.size 5 1 y n zs→w2.ownsRow w.heap.size 5 1 y n zs:=fun {y n zs} hy=>by
  refine hy.kept hg ?_
  cases hyb:y.ownBlock with
  |none=>exact .inl rfl
  |some k=>exact .inr (fun e=>rows_unlike hy hx (by decide) hyb e.symm)
 refine ⟨grown_own h.grown hx (Nat.le_refl _) hg,_,by simpa using ho,fun j hj=>?_⟩
 have hxl:xs.length=ps.length*2:=hx.1
 by_cases e:j=ps.length
 ·subst e
  refine ⟨u,?_,?_,?_,?_⟩
  ·rw[List.getElem?_append_right (by omega),hxl,show 2*ps.length-ps.length*2=0 by omega,List.getD_eq_getElem?_getD];simp
  ·rw[List.getElem?_append_right (by omega),hxl,show 2*ps.length+1-ps.length*2=1 by omega];rfl
  ·rw[List.getD_eq_getElem?_getD];simpa using hne hu
  ·rw[List.getD_eq_getElem?_getD];simpa using hl
 ·have hj':j<ps.length:=by simp at hj;omega
  obtain ⟨y,k1,k2,k3,k4⟩:=hxj j hj'
  have eg:(ps++[(t,l)]).getD j (0,[])=ps.getD j (0,[]):=by rw[List.getD_eq_getElem?_getD,List.getElem?_append_left hj',←List.getD_eq_getElem?_getD]
  rw[eg]
  exact ⟨y,by rw[List.getElem?_append_left (by omega)];exact k1,by rw[List.getElem?_append_left (by omega)];exact k2,hne k3,k4⟩
theorem all_more {b:List Nat} {f t i n:Nat} (hf:Tl.first b=.ok (t,i,n)) (hne:b≠[]):De.all (f+1) b=match De.all f (b.drop (i+n)) with
  |.error e=>.error e
  |.ok r=>.ok ((t,(b.drop i).take n) :: r):=by rw[De.all,if_neg hne,hf];rfl
def preAll (pre:List (Nat×List Nat)):Except Nat (List (Nat×List Nat))→Except Nat (List (Nat×List Nat))
 |.error e=>.error e
 |.ok r=>.ok (pre++r)
theorem preAll_cons (pre:List (Nat×List Nat)) (p:Nat×List Nat) (r:Except Nat (List (Nat×List Nat))):preAll pre (match r with
  |.error e=>.error e
  |.ok r=>.ok (p :: r))=preAll (pre++[p]) r:=by cases r <;> simp[preAll]
theorem iTe:((Tryz.prog.info? 148).map (fun i=>(i.zero,i.size,i.bytes)))=some (some (.agg #[.int .i64 0,.slice none 0 0]),2,32):=by kernel_rfl
theorem all_nil (f:Nat):De.all f []=.ok []:=by cases f <;> simp[De.all]
theorem preAll_ok (pre r:List (Nat×List Nat)):preAll pre (.ok r)=.ok (pre++r):=rfl
def AlPost (A:Nat→Addr) (w w':World) (r:Except Nat (List (Nat×List Nat))) (e:Ending):Prop:=match r with
 |.error k=>e=.returned (.tuple #[.slice none 0 0,errV A k])∧w.grownBy w' none
 |.ok ps=>∃ v,e=.returned (.tuple #[v,.nilIface])∧FrE w w' v ps
theorem FrE.form {w w':World} {v:Value} {ps:List (Nat×List Nat)} (h:FrE w w' v ps):∃ a c,v=.slice a ps.length c:=by
 obtain ⟨xs,h1,_⟩:=h.rows
 obtain ⟨a,g,c,h2,_⟩:=own_formN h1
 exact ⟨a,c,h2⟩
theorem all_any (A:Nat→Addr) (v:Value) (l:List Nat) (w:World) (hB:Bytes w v l) (h0:Whole0 v) (hl:l.length≤1099511620000) (hE:AllErrs w A) :
  Calls Tryz.prog 77 #[v] w fun e w'=>AlPost A w w' (De.all l.length l) e:=by
 have HB:=hid hB
 have H0:=hid h0
 have HE:=hid hE
 obtain ⟨_,va,_,_,vc,rfl,_⟩:=hB
 obtain ⟨R,hR⟩:∃ R,R=De.all l.length l:=⟨_,rfl⟩
 rw[←hR]
 have HR:=hid hR
 obtain ⟨n,hn⟩:∃ n,n=l.length:=⟨_,rfl⟩
 rw[←hn] at HB H0 HR hl ⊢
 have HN:=hid hn
 have HFi:=hid (fun (a:Option Addr) (m c:Nat) (r:List Nat) (W:World) (hg:w.grownBy W none) (hb:Bytes W (.slice a m c) r) (h:Whole0 (.slice a m c)) (hr:r.length≤1099511620000)=>tlvFirst_any A (.slice a m c) r W hb h (by omega) (hE.grown hg))
 clear hR hn h0 hE
 go_enter Tryz.func77,Tryz.ntmps77
 go_wp2
 go_loopw [0,4] (fun x y wr=>∃ (a:Option Addr) (m c f:Nat) (rest:List Nat) (pre:List (Nat×List Nat)),x=.slice a m c∧m=rest.length∧m≤f∧pre.length+f≤n∧Bytes w (.slice a m c) rest∧Whole0 (.slice a m c)∧FrE w wr y pre∧R=preAll pre (De.all f rest)) (fun x _ _=>(match x with | .slice _ n _=>n|_=>0:Nat))
 case atStart=>exact ⟨va,n,vc,n,l,[],rfl,HN.out,Nat.le_refl _,by simp,HB.out,H0.out,FrE.nil w,by rw[HR.out];cases De.all n l <;> simp[preAll]⟩
 case round =>
  obtain ⟨a,m,c,f,rest,pre,rfl,hm,hmf,hpf,hb,hw0,hF,hRr⟩:=hrel
  have HF:=hid hF
  have HBr:=hid hb
  have HW0:=hid hw0
  have HG:=hid hF.grown
  obtain ⟨ya,yc,hy⟩:=hF.form
  subst hy
  by_cases hz:rest=[]
  ·subst hz
   have hm0:m=0:=hm
   subst hm0
   have HRR:Hid (R=.ok pre):=hid (by rw[hRr,all_nil,preAll_ok,List.append_nil])
   obtain ⟨k,hk⟩:∃ k,k=pre.length:=⟨_,rfl⟩
   clear hF hb hw0 hRr hpf HBr hmf hm
   go_wp2
   go_ret2
   rw[HRR.out]
   exact ⟨_,rfl,HF.out⟩
  ·have hpos:0<rest.length:=by cases rest with|nil=>exact absurd rfl hz|cons=>simp
   obtain ⟨g,rfl⟩:∃ g,f=g+1:=⟨f-1,by omega⟩
   have HFc:=hid (HFi.out a m c rest wr hF.grown (hb.grown hF.grown) hw0 (by omega))
   cases hfst:Tl.first rest with
   |error k =>
    have HRR:Hid (R=.error k):=hid (by rw[hRr,De.all,if_neg hz,hfst];rfl)
    rw[hfst] at HFc
    have zm:0<m:=by omega
    clear hF hb hw0 hRr hpf HBr hmf hm hz hpos hfst
    go_wp2_with (go_at_call 114;refine HFc.out.mono ?_;rintro e w2 ⟨rfl,hg2⟩;have G2:=hid (grown_trans HG.out hg2);clear hg2)
    first
     |go_ret2
     |(go_quiet (fail);go_wp2;go_ret2)
    rw[HRR.out]
    first
     |exact ⟨rfl,grown_alloc G2.out _⟩
     |exact ⟨rfl,grown_drewN (grown_alloc G2.out _) _⟩
   |ok p =>
    obtain ⟨t,i,n'⟩:=p
    have hi2:=Tl.first_two hfst
    have HRR:Hid (R=preAll (pre++[(t,(rest.drop i).take n')]) (De.all g (rest.drop (i+n')))):=hid (by rw[hRr,all_more hfst hz];exact preAll_cons _ _ _)
    rw[hfst] at HFc
    have zm:0<m:=by omega
    have hpl:pre.length≤1099511620000:=by omega
    have HM:=hid hm
    have HMf:=hid hmf
    have HPf:=hid hpf
    have HL:=hid hl
    have HOwn:=hid (fun v l w a b c=>own_any (t:Int) v l w a b c)
    obtain ⟨xs,hx1,hx2⟩:=hF.rows
    have HXs:=hid hx1
    have HXj:=hid hx2
    have HPl:=hid hpl
    have HI:=hid iTe
    obtain ⟨K,hK⟩:∃ K,K=pre.length:=⟨_,rfl⟩
    rw[←hK] at HXs HPl HPf
    have HK:=hid hK
    have HF2:=HF
    rw[←hK]
    clear hF hb hw0 hRr hpf hmf hm hz hpos hfst hx1 hx2 hpl hK hl
    go_wp2_with (first
     |(go_at_call 114;refine HFc.out.mono ?_;rintro e w2 ⟨⟨ab,cb,ar,m2,cr,hlen,rfl,hp1,W1,hp2,W2⟩,hg2⟩;have HG2:=hid (grown_trans HG.out hg2);have HG2b:=hid hg2;have P1:=hid (hp1 w (HBr.out));have P2:=hid (hp2 w (HBr.out));have HW1':=hid W1;have HW2':=hid W2;have HLen:=hid hlen;clear hg2 hlen hp1 hp2 W1 W2)
     |(go_at_call 115;refine (HOwn.out _ _ _ (P1.out.grown (grown_alloc HG2.out _)) HW1'.out (by rw[←P1.out.cap.1];have:=HLen.out;have:=HM.out;have:=HMf.out;have:=HPf.out;have:=HL.out;omega)).mono ?_;rintro e w4 ⟨u4,rfl,hF4,a4,c4,hu4⟩;rw[←P1.out.cap.1] at hu4;subst hu4;have F4:=hid hF4;have G4:=hid (grown_trans (grown_alloc HG2b.out _) hF4.grown);have G4w:=hid (grown_trans (grown_alloc HG2.out _) hF4.grown);have FE4:=hid (HF2.out.to G4.out);have X4:=hid ((HXs.out.kept G4.out (Classical.em _)).alloc (.cells #[.int .i64 (t:Int),.slice a4 n' c4] 148));clear hF4)
     |(at_builtin;refine wpList_appN2 (by rfl) (.tmp 20) (.tmp 23) 123 (by rfl) w.heap.size 148 (.agg #[.int .i64 0,.slice none 0 0]) 2 32 Tryz.underlying123 HI.out rfl (by decide) (by decide) _ K xs (by rfl) X4.out ⟨_,0,none⟩ 1 _ [.int .i64 (t:Int),.slice a4 n' c4] (by rfl) rfl (by intro j u hj;rw[addr_addO,Nat.zero_add];exact cell_blk (alloc_at _ _) j (by simpa using hj)) (by intro u hu;simp at hu;rcases hu with rfl|rfl <;> rfl) (by have:=HPl.out;omega) (by have:=G4w.out.size;rw[alloc_size];omega) ?_;intro v' w5 ho5 hg5;intro hv5;have O5:=hid ho5;have G5:=hid hg5;clear ho5 hg5 hv5))
    have hm2:=P2.out.cap.1
    have FE5:FrE w w5 v' (pre++[(t,(rest.drop i).take n')]):=by
     refine FrE.step (FE4.out.to (World.grownBy_alloc w4 (.cells #[.int .i64 (t:Int),.slice a4 n' c4] 148) none)) (by rw[←HK.out];exact X4.out) (fun j hj=>?_) (ownsRow_low (F4.out.own.alloc _) (by have:=HG2.out.size;rw[alloc_size];omega)) P1.out.lt (by rw[←HK.out];exact O5.out) (by rw[←HK.out];exact G5.out)
     obtain ⟨y,k1,k2,k3,k4⟩:=HXj.out j hj
     exact ⟨y,k1,k2,(k3.kept G4.out (Classical.em _)).alloc _,k4⟩
    refine ⟨⟨ar,m2,cr,g,_,_,rfl,hm2,?_,?_,P2.out,HW2'.out,FE5,HRR.out⟩,?_⟩
    ·have:=HLen.out;have:=HM.out;have:=HMf.out;omega
    ·rw[List.length_append,←HK.out];have:=HPf.out;simp;omega
    ·show m2<m
     have:=HLen.out;have:=HM.out;omega
def ElsV (w:World) (v:Value) (ps:List (Nat×List Nat)):Prop :=
 ∃ (a:Option Addr) (g o c:Nat),v=.slice a ps.length c∧ps.length≤c∧(0<ps.length→a=some ⟨g,o,none⟩∧g<w.heap.size)∧∀ j,j<ps.length→∃ ya yc,w.cell? ⟨g,o+j*2,none⟩=some (.int .i64 ((ps.getD j (0,[])).1:Nat))∧w.cell? ⟨g,o+(j*2+1),none⟩=some (.slice ya (ps.getD j (0,[])).2.length yc) ∧
  Bytes w (.slice ya (ps.getD j (0,[])).2.length yc) (ps.getD j (0,[])).2∧Whole0 (.slice ya (ps.getD j (0,[])).2.length yc)
theorem ElsV.nil (w:World) (a:Option Addr) (c:Nat):ElsV w (.slice a 0 c) []:=⟨a,0,0,c,rfl,Nat.zero_le _,fun h=>absurd h (by simp),fun j hj=>absurd hj (by simp)⟩
theorem own_low {w:World} {base:Nat} {e:TypeId} {sz:Nat} {v:Value} {n:Nat} {xs:List Value} (h:w.ownsRow base e sz v n xs) {k:Nat} (hk:v.ownBlock=some k):base≤k∧k<w.heap.size:=by
 rcases h.2 with ⟨rfl,rfl⟩|⟨g,cap,cur,rfl,h2,h3,h4⟩
 ·exact absurd hk (by simp[Value.ownBlock])
 ·simp only[Value.ownBlock,Option.some.injEq] at hk
  subst hk
  exact ⟨h2,blk_lt h3⟩
theorem FrE.els {w w1:World} {v:Value} {ps:List (Nat×List Nat)} (h:FrE w w1 v ps):Sup (fun k=>w.heap.size≤k∧k<w1.heap.size) w1 (fun W=>ElsV W v ps):=by
 refine ⟨fun k hk=>hk.2,fun W hW=>?_⟩
 obtain ⟨xs,h1,h2⟩:=h.rows
 have hF:∀ k,(w.heap.size≤k∧k<w1.heap.size)→k<w1.heap.size:=fun k hk=>hk.2
 have h3:=(own_sup h1 hF (fun k hk=>own_low h1 hk)).holds W hW
 obtain ⟨a,g,c,rfl,hc,_,_,_,hop⟩:=own_formN h3
 refine ⟨a,g,0,c,rfl,hc,fun hp=>⟨(hop hp).1,(hop hp).2.1⟩,fun j hj=>?_⟩
 obtain ⟨rfl,hg,hcell,_⟩:=hop (by omega)
 obtain ⟨y,k1,k2,k3,k4⟩:=h2 j hj
 have k3:=(own_sup k3 hF (fun k hk=>own_low k3 hk)).holds W hW
 obtain ⟨ya,_,yc,rfl,_⟩:=own_formN k3
 refine ⟨ya,yc,?_,?_,Bytes.own k3 k4,Whole0.own k3⟩
 ·have:=hcell _ _ k1;rwa [Nat.zero_add,Nat.mul_comm]
 ·have:=hcell _ _ k2;rwa [Nat.zero_add,Nat.mul_comm]
theorem ElsV.tail {w:World} {a:Option Addr} {n c g o o2 c2:Nat} {p:Nat×List Nat} {ps:List (Nat×List Nat)} (h:ElsV w (.slice a n c) (p :: ps)) (ha:a=some ⟨g,o,none⟩) (hc:ps.length≤c2) (ho:ps.length=0∨o2=o+2):ElsV w (.slice (some ⟨g,o2,none⟩) ps.length c2) ps:=by
 obtain ⟨a',g',o',c',he,h1,h2,h3⟩:=h
 simp only[Value.slice.injEq] at he
 obtain ⟨rfl,rfl,rfl⟩:=he
 obtain ⟨h4,h5⟩:=h2 (by simp)
 rw[h4] at ha
 simp only[Option.some.injEq,Addr.mk.injEq] at ha
 obtain ⟨rfl,rfl,_⟩:=ha
 refine ⟨_,g',o2,c2,rfl,hc,fun _=>⟨rfl,h5⟩,fun j hj=>?_⟩
 obtain rfl:o2=o'+2:=by omega
 obtain ⟨ya,yc,k1,k2,k3,k4⟩:=h3 (j+1) (by simp only[List.length_cons];omega)
 rw[List.getD_cons_succ] at k1 k2 k3 k4
 refine ⟨ya,yc,?_,?_,k3,k4⟩
 ·rw[show o'+2+j*2=o'+(j+1)*2 by omega];exact k1
 ·rw[show o'+2+(j*2+1)=o'+((j+1)*2+1) by omega];exact k2
def MutR (b:Nat) (ov:Value) (k:Nat):Prop:=k=b∨ov.ownBlock=some k
structure PrE (W0:World) (F:Nat→Prop) (b:Nat) (lv ov:Value) (s:De.Rd) (w:World):Prop where
 sane:De.Sane s
 mine:∀ k,MutR b ov k→F k
 rov:ov.ownBlock≠some b
 left:Sup (ImM W0 F (MutR b ov)) w (fun W=>ElsV W lv (De.elems s.top))
 out:∃ ys,w.ownsRow 0 123 1 ov s.left.length ys∧∀ j,j<s.left.length→∃ y,ys[j]?=some y∧Sup (ImM W0 F (MutR b ov)) w (fun W=>ElsV W y (De.elems (s.left.reverse.getD j [])))
def Slc (v:Value):Prop:=∃ a n c,v=.slice a n c∧n≤16
structure PrR (A:Nat→Addr) (W0:World) (F:Nat→Prop) (b:Nat) (s:De.Rd) (w:World):Prop where
 base:W0.grownBy w none
 own:∀ k,F k→W0.heap.size≤k∧k<w.heap.size
 mem:F b
 body:∃ lv ov,w.heap[b]?=some (.cells #[lv,ov,errOf A s.e] 126 (0,0))∧(s.e=0→PrE W0 F b lv ov s w)∧Slc ov
section
variable {A:Nat→Addr} {W0 w w':World} {F:Nat→Prop} {b:Nat} {lv ov:Value} {s:De.Rd}
theorem PrR.iff (h:PrR A W0 F b s w) {G:Nat→Prop} (hG:∀ k,G k↔F k):PrR A W0 G b s w:=by
 have e:G=F:=funext fun k=>propext (hG k)
 rw[e];exact h
theorem PrE.other {G:Nat→Prop} (hb:W0.grownBy w none) (h:PrE W0 F b lv ov s w) (hG:∀ k,G k→W0.heap.size≤k) (hu:Upto G w w') (ha:Apart G F):PrE W0 F b lv ov s w':=by
 have hm:∀ k,MutR b ov k→¬ G k:=fun k hk hg=>ha k hg (h.mine k hk)
 have hi:∀ k,ImM W0 F (MutR b ov) k→¬ G k:=fun k hk hg=>by
  rcases hk.1 with hf|hl
  ·exact ha k hg hf
  ·have:=hG k hg;omega
 obtain ⟨ys,h1,h2⟩:=h.out
 refine ⟨h.sane,h.mine,h.rov,h.left.upto hu hi,ys,own_upto h1 hu (fun k hk=>hm k (.inr hk)),fun j hj=>?_⟩
 obtain ⟨y,k1,k2⟩:=h2 j hj
 exact ⟨y,k1,k2.upto hu hi⟩
theorem PrR.other {G G':Nat→Prop} (h:PrR A W0 F b s w) (hG:∀ k,G k→W0.heap.size≤k) (ht:Turn G G' w w') (ha:Apart G F):PrR A W0 F b s w':=by
 obtain ⟨lv,ov,h1,h2,hsl⟩:=h.body
 refine ⟨ht.upto.base h.base hG,fun k hk=>⟨(h.own k hk).1,Nat.lt_of_lt_of_le (h.own k hk).2 ht.upto.size⟩,h.mem,lv,ov,?_,fun he=>(h2 he).other h.base hG ht.upto ha,hsl⟩
 rw[ht.upto.block b (h.own b h.mem).2 (fun hg=>ha b hg h.mem)];exact h1
theorem PrR.still (h:PrR A W0 F b s w) (hg:w.grownBy w' none):PrR A W0 F b s w' :=
 h.other (G:=fun _=>False) (G':=fun _=>False) (fun _ h=>h.elim) (Turn.of_grown hg) (fun _ h=>h.elim)
theorem PrE.wide {G:Nat→Prop} (hb:W0.grownBy w none) (h:PrE W0 F b lv ov s w) (hFG:∀ k,F k→G k) (hG:∀ k,G k→W0.heap.size≤k∧k<w.heap.size):PrE W0 G b lv ov s w:=by
 have e1:∀ k,ImM W0 F (MutR b ov) k→ImM W0 G (MutR b ov) k:=fun k hk=>⟨hk.1.imp (hFG k) id,hk.2⟩
 have e2:∀ k,ImM W0 G (MutR b ov) k→k<w.heap.size:=fun k hk=>by
  rcases hk.1 with hk|hk
  ·exact (hG k hk).2
  ·exact Nat.lt_of_lt_of_le hk hb.size
 obtain ⟨ys,h1,h2⟩:=h.out
 refine ⟨h.sane,fun k hk=>hFG k (h.mine k hk),h.rov,h.left.mono e1 e2,ys,h1,fun j hj=>?_⟩
 obtain ⟨y,k1,k2⟩:=h2 j hj
 exact ⟨y,k1,k2.mono e1 e2⟩
theorem PrR.wide {G:Nat→Prop} (h:PrR A W0 F b s w) (hFG:∀ k,F k→G k) (hG:∀ k,G k→W0.heap.size≤k∧k<w.heap.size):PrR A W0 G b s w:=by
 obtain ⟨lv,ov,h1,h2,hsl⟩:=h.body
 exact ⟨h.base,hG,hFG b h.mem,lv,ov,h1,fun he=>(h2 he).wide h.base hFG hG,hsl⟩
theorem PrR.grow (h:PrR A W0 F b s w) (hg:w.grownBy w' none):PrR A W0 (Ext F w w') b s w' :=
 (h.still hg).wide (fun k hk=>.inl hk) (ext_own h.base h.own hg.size)
theorem PrR.join2 {w5:World} {s' s5:De.Rd} (h:PrR A W0 F b s w) (h5:Upto F w w5∧PrR A W0 (Ext F w w5) b s5 w5) (h6:Upto (Ext F w w5) w5 w'∧PrR A W0 (Ext (Ext F w w5) w5 w') b s' w'):Upto F w w'∧PrR A W0 (Ext F w w') b s' w':=by
 have h1:=h5.1.size
 have h2:=h6.1.size
 refine ⟨h5.1.trans h6.1 (fun k hk hf=>?_),h6.2.iff (fun k=>(Ext.trans h1 h2 k).symm)⟩
 rcases hf with hf|hf
 ·exact hf
 ·omega
theorem PrR.err (h:PrR A W0 F b s w) (m:Nat) (hm:m≠0):Upto F w (w.setCell ⟨b,2,none⟩ (errV A m))∧PrR A W0 (Ext F w (w.setCell ⟨b,2,none⟩ (errV A m))) b { s with e:=m } (w.setCell ⟨b,2,none⟩ (errV A m)):=by
 obtain ⟨lv,ov,h1,_,hsl⟩:=h.body
 have hs:(w.setCell ⟨b,2,none⟩ (errV A m)).heap.size=w.heap.size:=setCell_size _ _ _
 have hu:Upto F w (w.setCell ⟨b,2,none⟩ (errV A m)):=⟨rfl,rfl,rfl,by omega,fun k hk hmu=>Below.heap_setCell _ _ _ _ (fun e=>hmu (by rw[e];exact h.mem))⟩
 refine ⟨hu,hu.base h.base (fun k hk=>(h.own k hk).1),ext_own h.base h.own hu.size,.inl h.mem,lv,ov,?_,fun he=>absurd he hm,hsl⟩
 have:=setCell_heap (i:=2) h1 (errV A m)
 unfold errOf
 rw[if_neg hm]
 simpa using this
end
def PrRPost (A:Nat→Addr) (W0:World) (F:Nat→Prop) (b:Nat) (w w':World) (s':De.Rd) (e:Ending):Prop:=e=.returned (.tuple #[])∧Upto F w w'∧PrR A W0 (Ext F w w') b s' w'
section
variable {A:Nat→Addr} {W0 w w2:World} {F:Nat→Prop} {b:Nat} {s:De.Rd}
theorem PrR.same (h:PrR A W0 F b s w):Upto F w w∧PrR A W0 (Ext F w w) b s w:=⟨Upto.refl F w,h.iff (Ext.refl_iff F w)⟩
theorem PrR.err_cell (h:PrR A W0 F b s w):w.cell? ⟨b,2,none⟩=some (errOf A s.e)∧w.frozen? ⟨b,2,none⟩=false∧b<w.heap.size:=by
 obtain ⟨lv,ov,h1,_⟩:=h.body
 exact ⟨cell_blk h1 2 rfl,free_blk h1 2,blk_lt h1⟩
theorem PrR.at0 (h:PrR A W0 F b s w) (he:s.e=0):∃ la lc oa oc,w.heap[b]?=some (.cells #[.slice la (De.elems s.top).length lc,.slice oa s.left.length oc,.nilIface] 126 (0,0))∧PrE W0 F b (.slice la (De.elems s.top).length lc) (.slice oa s.left.length oc) s w:=by
 obtain ⟨lv,ov,h1,h2,_⟩:=h.body
 have h3:=h2 he
 obtain ⟨la,g,o,lc,rfl,_⟩:=h3.left.now
 obtain ⟨ys,k1,_⟩:=h3.out
 obtain ⟨oa,og,oc,rfl,_⟩:=own_formN k1
 rw[errOf,if_pos he] at h1
 exact ⟨la,lc,oa,oc,h1,h3⟩
theorem PrR.at1 (h:PrR A W0 F b s w) (he:s.e≠0):∃ lv ov,w.heap[b]?=some (.cells #[lv,ov,errV A s.e] 126 (0,0)):=by
 obtain ⟨lv,ov,h1,h2,_⟩:=h.body
 rw[errOf,if_neg he] at h1
 exact ⟨lv,ov,h1⟩
theorem PrR.at2 (h:PrR A W0 F b s w) (he:s.e≠0):∃ lv oa on oc,on≤16∧w.heap[b]?=some (.cells #[lv,.slice oa on oc,errV A s.e] 126 (0,0)):=by
 obtain ⟨lv,ov,h1,h2,oa,on,oc,rfl,hn⟩:=h.body
 rw[errOf,if_neg he] at h1
 exact ⟨lv,oa,on,oc,hn,h1⟩
end
theorem top_len {s:De.Rd} (hs:De.Sane s) (he:s.e=0):(0<(De.elems s.top).length)↔s.top≠[]:=by
 rw[List.length_pos_iff];exact not_congr (De.sane_none hs he)
theorem rdMoreZ {w:World} {b:Nat} {ov:Value} {a:Option Addr} {c:Nat} (hb:w.heap[b]?=some (.cells #[.slice a 0 c,ov,.nilIface] 126 (0,0))):Calls Tryz.prog 87 #[.pointer (some ⟨b,0,none⟩)] w fun e w'=>e=.returned (.bool false)∧w'=w:=by
 have c0:=cell_blk hb 0 rfl
 have c1:=cell_blk hb 1 rfl
 have c2:=cell_blk hb 2 rfl
 go_enter Tryz.func87,Tryz.ntmps87
 go_wp2
 go_ret
 exact ⟨rfl,rfl⟩
theorem prMore_any {A:Nat→Addr} {W0 w:World} {F:Nat→Prop} {b:Nat} {s:De.Rd} (h:PrR A W0 F b s w) :
  Calls Tryz.prog 87 #[.pointer (some ⟨b,0,none⟩)] w fun e w'=>e=.returned (.bool (De.more s))∧w'=w:=by
 by_cases he:s.e=0
 ·obtain ⟨la,lc,oa,oc,h1,h2⟩:=h.at0 he
  have hl:=top_len h2.sane he
  by_cases ht:s.top=[]
  ·have hm:De.more s=false:=by unfold De.more;simp[ht]
   rw[hm]
   rw[ht,De.elems_nil] at h1
   exact rdMoreZ h1
  ·have hm:De.more s=true:=by unfold De.more;simp[ht,he]
   rw[hm]
   exact rdMore0 (hl.2 ht) h1
 ·obtain ⟨lv,ov,h1⟩:=h.at1 he
  have hm:De.more s=false:=by unfold De.more;simp[he]
  rw[hm]
  exact rdMore1 h1
theorem PrE.first {W0 w:World} {F:Nat→Prop} {b:Nat} {s:De.Rd} {la:Option Addr} {n lc:Nat} {ov:Value} (h:PrE W0 F b (.slice la n lc) ov s w) (he:s.e=0) (ht:s.top≠[]):∃ g o t i m ya yc,la=some ⟨g,o,none⟩∧g<w.heap.size∧n≤lc∧Tl.first s.top=.ok (t,i,m)∧n=(De.elems (s.top.drop (i+m))).length+1 ∧
  w.cell? ⟨g,o,none⟩=some (.int .i64 (t:Nat))∧w.cell? ⟨g,o+1,none⟩=some (.slice ya ((s.top.drop i).take m).length yc)∧Bytes w (.slice ya ((s.top.drop i).take m).length yc) ((s.top.drop i).take m)∧Whole0 (.slice ya ((s.top.drop i).take m).length yc):=by
 obtain ⟨t,i,m,hq,hel,_⟩:=De.sane_first h.sane he ht
 obtain ⟨a',g,o,c',e1,h1,h2,h3⟩:=h.left.now
 simp only[Value.slice.injEq] at e1
 obtain ⟨rfl,hn,rfl⟩:=e1
 rw[hel] at h1 h2 h3 hn
 obtain ⟨h4,h5⟩:=h2 (by simp)
 obtain ⟨ya,yc,k1,k2,k3,k4⟩:=h3 0 (by simp)
 rw[List.getD_cons_zero] at k1 k2 k3 k4
 refine ⟨g,o,t,i,m,ya,yc,h4,h5,by rw[hn];exact h1,hq,by rw[hn];simp,by simpa using k1,by simpa using k2,k3,k4⟩
theorem prFailR_any {A:Nat→Addr} {W0 w:World} {F:Nat→Prop} {b:Nat} {s:De.Rd} (h:PrR A W0 F b s w) (k:Nat) (hk:k≠0) :
  Calls Tryz.prog 88 #[.pointer (some ⟨b,0,none⟩),errV A k] w fun e w'=>PrRPost A W0 F b w w' (if s.e=0 then { s with e:=k } else s) e:=by
 by_cases he:s.e=0
 ·rw[if_pos he]
  obtain ⟨la,lc,oa,oc,h1,h2⟩:=h.at0 he
  exact (rdFail0e h1 A k).mono (fun e w' hp=>by obtain ⟨rfl,rfl⟩:=hp;exact ⟨rfl,h.err k hk⟩)
 ·rw[if_neg he]
  obtain ⟨lv,ov,h1⟩:=h.at1 he
  exact (rdFail1 h1 _).mono (fun e w' hp=>by obtain ⟨rfl,rfl⟩:=hp;exact ⟨rfl,h.same⟩)
theorem prErrR_any {A:Nat→Addr} {W0 w:World} {F:Nat→Prop} {b:Nat} {s:De.Rd} (h:PrR A W0 F b s w) :
  Calls Tryz.prog 89 #[.pointer (some ⟨b,0,none⟩)] w fun e w'=>e=.returned (errOf A s.e)∧w'=w:=by
 by_cases he:s.e=0
 ·obtain ⟨la,lc,oa,oc,h1,h2⟩:=h.at0 he
  rw[errOf,if_pos he]
  exact rdErr0 h1
 ·obtain ⟨lv,ov,h1⟩:=h.at1 he
  rw[errOf,if_neg he]
  exact rdErr1 h1
theorem prEnd_any {A:Nat→Addr} {W0 w:World} {F:Nat→Prop} {b:Nat} {s:De.Rd} (h:PrR A W0 F b s w) (hE:AllErrs W0 A) :
  Calls Tryz.prog 45 #[.pointer (some ⟨b,0,none⟩)] w fun e w'=>e=.returned (errOf A (De.fin s))∧w'=w:=by
 by_cases he:s.e=0
 ·obtain ⟨la,lc,oa,oc,h1,h2⟩:=h.at0 he
  have hl:=top_len h2.sane he
  have HED:w.cell? ⟨23,0,none⟩=some (errV A 24)∧w.cell? ⟨0,0,none⟩=some (errV A 4):=by
   have hEE:=hE.grown h.base
   have e5:=errs_at hEE 24 (by decide)
   have e6:=errs_at hEE 4 (by decide)
   simp only[errVars,List.getD_cons_zero,List.getD_cons_succ,Nat.add_one_sub_one] at e5 e6
   exact ⟨e5,e6⟩
  obtain ⟨e24,e4⟩:=HED
  have c0:=cell_blk h1 0 rfl
  have c1:=cell_blk h1 1 rfl
  have c2:=cell_blk h1 2 rfl
  obtain ⟨N,hN⟩:∃ N,N=(De.elems s.top).length:=⟨_,rfl⟩
  obtain ⟨M,hM⟩:∃ M,M=s.left.length:=⟨_,rfl⟩
  rw[←hN] at c0 hl
  rw[←hM] at c1
  unfold De.fin
  rw[if_neg (by simp[he])]
  by_cases hM0:0<M
  ·rw[if_pos (by intro e;rw[e] at hM;simp at hM;omega)]
   have hMi:(0:Int)<(M:Int):=by omega
   rw[errOf,if_neg (by decide)]
   clear h h1 h2 hN hM hl he hE
   go_enter Tryz.func45,Tryz.ntmps45
   go_wp2
   go_ret
   exact ⟨rfl,rfl⟩
  ·rw[if_neg (by intro e;exact e (List.length_eq_zero_iff.1 (by omega)))]
   obtain rfl:M=0:=by omega
   by_cases ht:s.top=[]
   ·rw[if_neg (by simp[ht]),errOf,if_pos rfl]
    have:N=0:=by have:=mt hl.1 (by simp[ht]);omega
    subst this
    clear h h1 h2 hN hM hl he hE
    go_enter Tryz.func45,Tryz.ntmps45
    go_wp2
    go_ret
    exact ⟨rfl,rfl⟩
   ·rw[if_pos ht,errOf,if_neg (by decide)]
    have hNi:(0:Int)<(N:Int):=by have:=hl.2 ht;omega
    clear h h1 h2 hN hM hl he hE
    go_enter Tryz.func45,Tryz.ntmps45
    go_wp2
    go_ret
    exact ⟨rfl,rfl⟩
 ·obtain ⟨lv,ov,h1⟩:=h.at1 he
  unfold De.fin
  rw[if_pos (by simp[he]),errOf,if_neg he]
  exact rdEnd1 h1
def GetPost (A:Nat→Addr) (w w':World) (r:Except Nat (World→Value→Prop)) (e:Ending):Prop:=w.grownBy w' none∧match r with
 |.ok V=>∃ v,e=.returned (.tuple #[v,.nilIface])∧V w' v
 |.error k=>∃ u,e=.returned (.tuple #[u,errV A k])
def Top1 (s:De.Rd) (l:List Nat):Prop:=∃ t i n,Tl.first s.top=.ok (t,i,n)∧l=(s.top.drop i).take n
def nextP (s:De.Rd) (tag:Int):De.Rd×Option (List Nat):=if s.e≠0 then (s,none) else if s.top=[] then ({ s with e:=2 },none) else match Tl.first s.top with
 |.error e=>({ s with e:=e },none)
 |.ok (t,i,n)=>if (t:Int)≠tag then ({ s with e:=5 },none) else ({ s with top:=s.top.drop (i+n) },some ((s.top.drop i).take n))
def readP (s:De.Rd) (tag:Int) (r:List Nat→Except Nat (World→Value→Prop)):De.Rd×Option (World→Value→Prop):=match nextP s tag with
 |(s2,none)=>(s2,none)
 |(s2,some l)=>match r l with
  |.error k=>({ s2 with e:=k },none)
  |.ok V=>(s2,some V)
def PrROut (A:Nat→Addr) (W0:World) (F:Nat→Prop) (b:Nat) (w w':World) (Z:Value) (p:De.Rd×Option (World→Value→Prop)) (e:Ending):Prop:=Upto F w w'∧PrR A W0 (Ext F w w') b p.1 w'∧match p.2 with
 |none=>e=.returned Z
 |some V=>∃ v,e=.returned v∧V w' v
section
variable {A:Nat→Addr} {W0 w w2:World} {F:Nat→Prop} {b:Nat} {s:De.Rd}
theorem PrR.err_any (h:PrR A W0 F b s w) (he:s.e≠0) {s2:De.Rd} (h2:s2.e=s.e):PrR A W0 F b s2 w:=by
 obtain ⟨lv,ov,h3,_,hsl⟩:=h.body
 exact ⟨h.base,h.own,h.mem,lv,ov,by rw[h2];exact h3,fun h4=>absurd (h2.symm.trans h4) he,hsl⟩
theorem PrR.after {w':World} {s':De.Rd} {e:Ending} (h:PrR A W0 F b s w) (hg:w.grownBy w2 none) (hp:PrRPost A W0 (Ext F w w2) b w2 w' s' e):PrRPost A W0 F b w w' s' e:=by
 obtain ⟨h1,h2,h3⟩:=hp
 have:=h.join2 ⟨Upto.of_grown F hg,h.grow hg⟩ ⟨h2,h3⟩
 exact ⟨h1,this.1,this.2⟩
theorem PrE.slc {lv ov:Value} (h:PrE W0 F b lv ov s w) (he:s.e=0):Slc ov:=by
 obtain ⟨ys,k1,_⟩:=h.out
 obtain ⟨oa,og,oc,rfl,_⟩:=own_formN k1
 obtain ⟨k,hk,_⟩:=h.sane he
 exact ⟨oa,_,oc,rfl,by omega⟩
theorem PrR.turn (h:PrR A W0 F b s w) {lv ov v':Value} {top':List Nat} (h1:w.heap[b]?=some (.cells #[lv,ov,.nilIface] 126 (0,0))) (he:s.e=0) (h2:PrE W0 F b lv ov s w) (hs:De.Sane { s with top:=top' })
  (hv:Sup (ImM W0 F (MutR b ov)) w (fun W=>ElsV W v' (De.elems top'))) :
  Upto F w (w.setCell ⟨b,0,none⟩ v')∧PrR A W0 (Ext F w (w.setCell ⟨b,0,none⟩ v')) b { s with top:=top' } (w.setCell ⟨b,0,none⟩ v'):=by
 have hsz:(w.setCell ⟨b,0,none⟩ v').heap.size=w.heap.size:=setCell_size _ _ _
 have hub:Upto (fun k=>k=b) w (w.setCell ⟨b,0,none⟩ v'):=⟨rfl,rfl,rfl,by omega,fun k hk hm=>Below.heap_setCell _ _ _ _ (fun e=>hm e)⟩
 have hu:Upto F w (w.setCell ⟨b,0,none⟩ v'):=hub.mono (fun k _ hk=>by rw[hk];exact h.mem)
 have huM:Upto (MutR b ov) w (w.setCell ⟨b,0,none⟩ v'):=hub.mono (fun k _ hk=>.inl hk)
 have hh:=setCell_heap (i:=0) h1 v'
 refine ⟨hu,hu.base h.base (fun k hk=>(h.own k hk).1),ext_own h.base h.own hu.size,.inl h.mem,v',ov,?_,fun _=>?_,h2.slc he⟩
 ·rw[errOf,if_pos he]
  simpa using hh
 ·obtain ⟨ys,k1,k2⟩:=h2.out
  refine ⟨hs,fun k hk=>.inl (h2.mine k hk),h2.rov,imM_keep h.base h.own hv huM (fun k _ hk=>hk),ys,own_upto k1 hub (fun k hk e=>h2.rov (by rw[hk,e])),fun j hj=>?_⟩
  obtain ⟨y,l1,l2⟩:=k2 j hj
  exact ⟨y,l1,imM_keep h.base h.own l2 huM (fun k _ hk=>hk)⟩
theorem PrR.took (h:PrR A W0 F b s w) {g o o2 N lc c2 n t i m:Nat} {ov:Value} (hg:w.grownBy w2 none) (h1:w.heap[b]?=some (.cells #[.slice (some ⟨g,o,none⟩) N lc,ov,.nilIface] 126 (0,0))) (he:s.e=0) (h2:PrE W0 F b (.slice (some ⟨g,o,none⟩) N lc) ov s w) (ht:s.top≠[]) (hq:Tl.first s.top=.ok (t,i,m))
  (hn:n=(De.elems (s.top.drop (i+m))).length) (hc:n≤c2) (ho:n=0∨o2=o+2) :
  Upto F w (w2.setCell ⟨b,0,none⟩ (.slice (some ⟨g,o2,none⟩) n c2))∧PrR A W0 (Ext F w (w2.setCell ⟨b,0,none⟩ (.slice (some ⟨g,o2,none⟩) n c2))) b { s with top:=s.top.drop (i+m) } (w2.setCell ⟨b,0,none⟩ (.slice (some ⟨g,o2,none⟩) n c2)):=by
 subst hn
 have hel:De.elems s.top=(t,(s.top.drop i).take m) :: De.elems (s.top.drop (i+m)):=by
  obtain ⟨t',i',m',hq',hel,_⟩:=De.sane_first h2.sane he ht
  rw[hq] at hq'
  have hq2:=Except.ok.inj hq'
  simp only[Prod.mk.injEq] at hq2
  obtain ⟨rfl,rfl,rfl⟩:=hq2
  exact hel
 have h1':=(hg.block b (blk_lt h1) (by simp)).trans h1
 have h2':PrE W0 (Ext F w w2) b (.slice (some ⟨g,o,none⟩) N lc) ov s w2:=(h2.other h.base (G:=fun _=>False) (fun _ h=>h.elim) (Upto.of_grown _ hg) (fun _ h=>h.elim)).wide (grown_join h.base hg) (fun k hk=>.inl hk) (ext_own h.base h.own hg.size)
 refine h.join2 ⟨Upto.of_grown F hg,h.grow hg⟩ ((h.grow hg).turn h1' he h2' (De.sane_took h2.sane ht hq) (h2'.left.map fun W hW=>?_))
 rw[hel] at hW
 exact hW.tail rfl hc ho
end
theorem prRead_int {A:Nat→Addr} {W0 w:World} {F:Nat→Prop} {b:Nat} {s:De.Rd} (h:PrR A W0 F b s w) (hE:AllErrs W0 A) (tag:Int) (f:Nat) (caps:Array Value) (r:List Nat→Except Nat (World→Value→Prop))
  (hr:∀ l k,r l=.error k→k≠0) (hV:∀ l V,r l=.ok V→∀ w2 v x,w.grownBy w2 none→V w2 v→V (w2.setCell ⟨b,0,none⟩ x) v)
  (hen:∀ args w,(callFunc f args).run Tryz.prog w=.ok (.enter f args) w) (hB:∀ l a c,(∀ x∈l,x<256)→l.length≤65530→(l.length≤s.top.length∧Top1 s l)→Bytes w (.slice a l.length c) l→Whole0 (.slice a l.length c)→Calls Tryz.prog f (#[.slice a l.length c]++caps) w fun e w'=>GetPost A w w' (r l) e) :
  Calls Tryz.prog 93 #[.pointer (some ⟨b,0,none⟩),.int .i64 tag,.func (.func f) #[] caps] w fun e w'=>PrROut A W0 F b w w' (.int .i64 0) (readP s tag r) e:=by
 have HX:=hid h
 by_cases he:s.e=0
 ·obtain ⟨la,lc,oa,oc,h1,h2⟩:=h.at0 he
  have HED:Hid (w.cell? ⟨2,0,none⟩=some (errV A 2)∧w.cell? ⟨4,0,none⟩=some (errV A 5)):=hid (by
   have hEE:=hE.grown h.base
   have e5:=errs_at hEE 2 (by decide)
   have e6:=errs_at hEE 5 (by decide)
   simp only[errVars,List.getD_cons_zero,List.getD_cons_succ,Nat.add_one_sub_one] at e5 e6
   exact ⟨e5,e6⟩)
  have c0:w.cell? ⟨b,0,none⟩=some (.slice la (De.elems s.top).length lc):=cell_blk h1 0 rfl
  have f0:=free_blk h1 0
  have c2:w.cell? ⟨b,2,none⟩=some .nilIface:=cell_blk h1 2 rfl
  have hbl:=blk_lt h1
  by_cases ht:s.top=[]
  ·have hst:readP s tag r=({ s with e:=2 },none):=by unfold readP nextP;rw[if_neg (by simp[he]),if_pos ht]
   rw[hst]
   have HF:=hid (prFailR_any h 2 (by decide))
   rw[if_pos he] at HF
   have e2:=HED.out.1
   replace c0:w.cell? ⟨b,0,none⟩=some (.slice la 0 lc):=by rw[c0,ht];rfl
   clear h he ht hst hE hB h1 h2 hr hV
   go_enter Tryz.func93,Tryz.ntmps93
   go_wp2_with (go_at_call 88;refine HF.out.mono ?_;rintro e w3 ⟨rfl,k1,k2⟩;have K1:=hid k1;have K2:=hid k2;clear k1 k2)
   go_ret
   exact ⟨K1.out,K2.out,rfl⟩
  ·obtain ⟨g,o,t,i,m,ya,yc,rfl,hgs,hnl,hq,hn,d0,d1,dB,dW⟩:=h2.first he ht
   obtain ⟨t',i',m',hq',hel,hkn,hm,_,h8,hml,_⟩:=De.sane_first h2.sane he ht
   rw[hq] at hq'
   have hq2:=Except.ok.inj hq'
   simp only[Prod.mk.injEq] at hq2
   obtain ⟨rfl,rfl,rfl⟩:=hq2
   by_cases htt:(t:Int)=tag
   ·subst htt
    obtain ⟨l,hl⟩:∃ l,l=(s.top.drop i).take m:=⟨_,rfl⟩
    rw[←hl] at d1 dB dW h8 hml
    have HBd:=hid (hB l ya yc h8 (by omega) ⟨by rw[hl,List.length_take,List.length_drop];omega,_,_,_,hq,hl⟩ dB dW)
    have H1:=hid h1
    obtain ⟨N,hN⟩:∃ N,N=(De.elems s.top).length:=⟨_,rfl⟩
    rw[←hN] at c0 hn H1 hnl
    have HC:=hid c0
    have hNi:(0:Int)<(N:Int):=by omega
    have HL:Hid (∀ w2,w.grownBy w2 none→w2.cell? ⟨b,0,none⟩=some (.slice (some ⟨g,o,none⟩) N lc)∧w2.frozen? ⟨b,0,none⟩=false∧b<w2.heap.size):=hid (fun w2 hg=>by
     have hb2:=(hg.block b (blk_lt H1.out) (by simp)).trans H1.out
     exact ⟨cell_blk hb2 0 rfl,free_blk hb2 0,blk_lt hb2⟩)
    cases hrl:r l with
    |error k =>
     have hk:=hr l k hrl
     have hst:readP s (t:Int) r=({ s with top:=s.top.drop (i+m),e:=k },none):=by
      unfold readP nextP;rw[if_neg (by simp[he]),if_neg ht,hq]
      simp only[ne_eq,not_true_eq_false,if_false,←hl,hrl]
     rw[hst]
     rw[hrl] at HBd
     have HF:Hid (∀ w2,w.grownBy w2 none→Calls Tryz.prog 88 #[.pointer (some ⟨b,0,none⟩),errV A k] w2 fun e w'=>PrRPost A W0 F b w w' { s with e:=k } e):=hid (fun w2 hg=>(prFailR_any (HX.out.grow hg) k hk).mono (fun e w' hp=>by
      rw[if_pos he] at hp
      exact HX.out.after hg hp))
     have HK:=hid hk
     clear h he ht hst hE hB h1 h2 hr hV hN hn hnl dB dW hel hkn hm h8 hml hq hrl hk hq' hl
     go_enter Tryz.func93,Tryz.ntmps93
     go_wp2_with (first
      |((with_reducible refine HBd.out.mono ?_);rintro e w2 ⟨hg2,u,rfl⟩;have HG2:=hid hg2;clear hg2)
      |(go_at_call 88;refine (HF.out _ HG2.out).mono ?_;rintro e w3 ⟨rfl,k1,k2⟩;have K1:=hid k1;have K2:=hid k2;clear k1 k2))
     go_ret
     exact ⟨K1.out,K2.out.err_any HK.out rfl,rfl⟩
    |ok V =>
     have hst:readP s (t:Int) r=({ s with top:=s.top.drop (i+m) },some V):=by
      unfold readP nextP;rw[if_neg (by simp[he]),if_neg ht,hq]
      simp only[ne_eq,not_true_eq_false,if_false,←hl,hrl]
     rw[hst]
     rw[hrl] at HBd
     have HT:Hid (∀ w2 n c2 o2 v,w.grownBy w2 none→V w2 v→n+1=N→n≤c2→(n=0∨o2=o+2)→PrROut A W0 F b w (w2.setCell ⟨b,0,none⟩ (.slice (some ⟨g,o2,none⟩) n c2)) (.int .i64 0) ({ s with top:=s.top.drop (i+m) },some V) (.returned v)):=hid (fun w2 n c2 o2 v hg hv hn2 hc2 ho2=>by
      rw[←hN] at h2
      have hT:=h.took (o2:=o2) hg H1.out he h2 ht hq (n:=n) (by omega) hc2 ho2
      exact ⟨hT.1,hT.2,v,rfl,hV l V hrl _ _ _ hg hv⟩)
     have hN1:(1:Int)≤(N:Int):=by omega
     have hNl:(N:Int)≤(lc:Int):=by omega
     have HN:=hid hn
     have HNL:=hid hnl
     clear h he ht hst hE hB h1 h2 hr hV hN hn hnl dB dW hel hkn hm h8 hml hq hrl hq' hl
     go_enter Tryz.func93,Tryz.ntmps93
     go_wp2_with (first
      |((with_reducible refine HBd.out.mono ?_);rintro e w2 ⟨hg2,v,rfl,hv⟩;obtain ⟨c0b,f0b,hbb⟩:=HL.out w2 hg2;have HG2:=hid hg2;have HVV:=hid hv;clear hg2 hv))
     all_goals (go_ret;exact HT.out w2 _ _ _ v HG2.out HVV.out (by omega) (by omega) (by omega))
   ·have hst:readP s tag r=({ s with e:=5 },none):=by unfold readP nextP;rw[if_neg (by simp[he]),if_neg ht,hq];simp only[ne_eq,htt,not_false_eq_true,if_true]
    rw[hst]
    have HF:=hid (prFailR_any h 5 (by decide))
    rw[if_pos he] at HF
    have e5:=HED.out.2
    obtain ⟨N,hN⟩:∃ N,N=(De.elems s.top).length:=⟨_,rfl⟩
    rw[←hN] at c0 hn
    have hNi:(0:Int)<(N:Int):=by omega
    have htb:((t:Int)==tag)=false:=by simpa using htt
    clear h he ht hst hE hB h1 h2 hr hV hN hn hnl dB dW hel hkn hm h8 hml hq
    go_enter Tryz.func93,Tryz.ntmps93
    go_wp2_with (go_at_call 88;refine HF.out.mono ?_;rintro e w3 ⟨rfl,k1,k2⟩;have K1:=hid k1;have K2:=hid k2;clear k1 k2)
    go_ret
    exact ⟨K1.out,K2.out,rfl⟩
 ·have hst:readP s tag r=(s,none):=by unfold readP nextP;rw[if_pos (by simp[he])]
  rw[hst]
  obtain ⟨lv,ov,h1⟩:=h.at1 he
  have HK:=hid HX.out.same
  have c2:=cell_blk h1 2 rfl
  clear h he hE hB hst h1
  go_enter Tryz.func93,Tryz.ntmps93
  go_wp2
  go_ret
  exact ⟨HK.out.1,HK.out.2,rfl⟩
theorem prRead_bytes {A:Nat→Addr} {W0 w:World} {F:Nat→Prop} {b:Nat} {s:De.Rd} (h:PrR A W0 F b s w) (hE:AllErrs W0 A) (tag:Int) (f:Nat) (caps:Array Value) (r:List Nat→Except Nat (World→Value→Prop))
  (hr:∀ l k,r l=.error k→k≠0) (hV:∀ l V,r l=.ok V→∀ w2 v x,w.grownBy w2 none→V w2 v→V (w2.setCell ⟨b,0,none⟩ x) v)
  (hen:∀ args w,(callFunc f args).run Tryz.prog w=.ok (.enter f args) w) (hB:∀ l a c,(∀ x∈l,x<256)→l.length≤65530→(l.length≤s.top.length∧Top1 s l)→Bytes w (.slice a l.length c) l→Whole0 (.slice a l.length c)→Calls Tryz.prog f (#[.slice a l.length c]++caps) w fun e w'=>GetPost A w w' (r l) e) :
  Calls Tryz.prog 91 #[.pointer (some ⟨b,0,none⟩),.int .i64 tag,.func (.func f) #[] caps] w fun e w'=>PrROut A W0 F b w w' (.slice none 0 0) (readP s tag r) e:=by
 have HX:=hid h
 by_cases he:s.e=0
 ·obtain ⟨la,lc,oa,oc,h1,h2⟩:=h.at0 he
  have HED:Hid (w.cell? ⟨2,0,none⟩=some (errV A 2)∧w.cell? ⟨4,0,none⟩=some (errV A 5)):=hid (by
   have hEE:=hE.grown h.base
   have e5:=errs_at hEE 2 (by decide)
   have e6:=errs_at hEE 5 (by decide)
   simp only[errVars,List.getD_cons_zero,List.getD_cons_succ,Nat.add_one_sub_one] at e5 e6
   exact ⟨e5,e6⟩)
  have c0:w.cell? ⟨b,0,none⟩=some (.slice la (De.elems s.top).length lc):=cell_blk h1 0 rfl
  have f0:=free_blk h1 0
  have c2:w.cell? ⟨b,2,none⟩=some .nilIface:=cell_blk h1 2 rfl
  have hbl:=blk_lt h1
  by_cases ht:s.top=[]
  ·have hst:readP s tag r=({ s with e:=2 },none):=by unfold readP nextP;rw[if_neg (by simp[he]),if_pos ht]
   rw[hst]
   have HF:=hid (prFailR_any h 2 (by decide))
   rw[if_pos he] at HF
   have e2:=HED.out.1
   replace c0:w.cell? ⟨b,0,none⟩=some (.slice la 0 lc):=by rw[c0,ht];rfl
   clear h he ht hst hE hB h1 h2 hr hV
   go_enter Tryz.func91,Tryz.ntmps91
   go_wp2_with (go_at_call 88;refine HF.out.mono ?_;rintro e w3 ⟨rfl,k1,k2⟩;have K1:=hid k1;have K2:=hid k2;clear k1 k2)
   go_ret
   exact ⟨K1.out,K2.out,rfl⟩
  ·obtain ⟨g,o,t,i,m,ya,yc,rfl,hgs,hnl,hq,hn,d0,d1,dB,dW⟩:=h2.first he ht
   obtain ⟨t',i',m',hq',hel,hkn,hm,_,h8,hml,_⟩:=De.sane_first h2.sane he ht
   rw[hq] at hq'
   have hq2:=Except.ok.inj hq'
   simp only[Prod.mk.injEq] at hq2
   obtain ⟨rfl,rfl,rfl⟩:=hq2
   by_cases htt:(t:Int)=tag
   ·subst htt
    obtain ⟨l,hl⟩:∃ l,l=(s.top.drop i).take m:=⟨_,rfl⟩
    rw[←hl] at d1 dB dW h8 hml
    have HBd:=hid (hB l ya yc h8 (by omega) ⟨by rw[hl,List.length_take,List.length_drop];omega,_,_,_,hq,hl⟩ dB dW)
    have H1:=hid h1
    obtain ⟨N,hN⟩:∃ N,N=(De.elems s.top).length:=⟨_,rfl⟩
    rw[←hN] at c0 hn H1 hnl
    have HC:=hid c0
    have hNi:(0:Int)<(N:Int):=by omega
    have HL:Hid (∀ w2,w.grownBy w2 none→w2.cell? ⟨b,0,none⟩=some (.slice (some ⟨g,o,none⟩) N lc)∧w2.frozen? ⟨b,0,none⟩=false∧b<w2.heap.size):=hid (fun w2 hg=>by
     have hb2:=(hg.block b (blk_lt H1.out) (by simp)).trans H1.out
     exact ⟨cell_blk hb2 0 rfl,free_blk hb2 0,blk_lt hb2⟩)
    cases hrl:r l with
    |error k =>
     have hk:=hr l k hrl
     have hst:readP s (t:Int) r=({ s with top:=s.top.drop (i+m),e:=k },none):=by
      unfold readP nextP;rw[if_neg (by simp[he]),if_neg ht,hq]
      simp only[ne_eq,not_true_eq_false,if_false,←hl,hrl]
     rw[hst]
     rw[hrl] at HBd
     have HF:Hid (∀ w2,w.grownBy w2 none→Calls Tryz.prog 88 #[.pointer (some ⟨b,0,none⟩),errV A k] w2 fun e w'=>PrRPost A W0 F b w w' { s with e:=k } e):=hid (fun w2 hg=>(prFailR_any (HX.out.grow hg) k hk).mono (fun e w' hp=>by
      rw[if_pos he] at hp
      exact HX.out.after hg hp))
     have HK:=hid hk
     clear h he ht hst hE hB h1 h2 hr hV hN hn hnl dB dW hel hkn hm h8 hml hq hrl hk hq' hl
     go_enter Tryz.func91,Tryz.ntmps91
     go_wp2_with (first
      |((with_reducible refine HBd.out.mono ?_);rintro e w2 ⟨hg2,u,rfl⟩;have HG2:=hid hg2;clear hg2)
      |(go_at_call 88;refine (HF.out _ HG2.out).mono ?_;rintro e w3 ⟨rfl,k1,k2⟩;have K1:=hid k1;have K2:=hid k2;clear k1 k2))
     go_ret
     exact ⟨K1.out,K2.out.err_any HK.out rfl,rfl⟩
    |ok V =>
     have hst:readP s (t:Int) r=({ s with top:=s.top.drop (i+m) },some V):=by
      unfold readP nextP;rw[if_neg (by simp[he]),if_neg ht,hq]
      simp only[ne_eq,not_true_eq_false,if_false,←hl,hrl]
     rw[hst]
     rw[hrl] at HBd
     have HT:Hid (∀ w2 n c2 o2 v,w.grownBy w2 none→V w2 v→n+1=N→n≤c2→(n=0∨o2=o+2)→PrROut A W0 F b w (w2.setCell ⟨b,0,none⟩ (.slice (some ⟨g,o2,none⟩) n c2)) (.slice none 0 0) ({ s with top:=s.top.drop (i+m) },some V) (.returned v)):=hid (fun w2 n c2 o2 v hg hv hn2 hc2 ho2=>by
      rw[←hN] at h2
      have hT:=h.took (o2:=o2) hg H1.out he h2 ht hq (n:=n) (by omega) hc2 ho2
      exact ⟨hT.1,hT.2,v,rfl,hV l V hrl _ _ _ hg hv⟩)
     have hN1:(1:Int)≤(N:Int):=by omega
     have hNl:(N:Int)≤(lc:Int):=by omega
     have HN:=hid hn
     have HNL:=hid hnl
     clear h he ht hst hE hB h1 h2 hr hV hN hn hnl dB dW hel hkn hm h8 hml hq hrl hq' hl
     go_enter Tryz.func91,Tryz.ntmps91
     go_wp2_with (first
      |((with_reducible refine HBd.out.mono ?_);rintro e w2 ⟨hg2,v,rfl,hv⟩;obtain ⟨c0b,f0b,hbb⟩:=HL.out w2 hg2;have HG2:=hid hg2;have HVV:=hid hv;clear hg2 hv))
     all_goals (go_ret;exact HT.out w2 _ _ _ v HG2.out HVV.out (by omega) (by omega) (by omega))
   ·have hst:readP s tag r=({ s with e:=5 },none):=by unfold readP nextP;rw[if_neg (by simp[he]),if_neg ht,hq];simp only[ne_eq,htt,not_false_eq_true,if_true]
    rw[hst]
    have HF:=hid (prFailR_any h 5 (by decide))
    rw[if_pos he] at HF
    have e5:=HED.out.2
    obtain ⟨N,hN⟩:∃ N,N=(De.elems s.top).length:=⟨_,rfl⟩
    rw[←hN] at c0 hn
    have hNi:(0:Int)<(N:Int):=by omega
    have htb:((t:Int)==tag)=false:=by simpa using htt
    clear h he ht hst hE hB h1 h2 hr hV hN hn hnl dB dW hel hkn hm h8 hml hq
    go_enter Tryz.func91,Tryz.ntmps91
    go_wp2_with (go_at_call 88;refine HF.out.mono ?_;rintro e w3 ⟨rfl,k1,k2⟩;have K1:=hid k1;have K2:=hid k2;clear k1 k2)
    go_ret
    exact ⟨K1.out,K2.out,rfl⟩
 ·have hst:readP s tag r=(s,none):=by unfold readP nextP;rw[if_pos (by simp[he])]
  rw[hst]
  obtain ⟨lv,ov,h1⟩:=h.at1 he
  have HK:=hid HX.out.same
  have c2:=cell_blk h1 2 rfl
  clear h he hE hB hst h1
  go_enter Tryz.func91,Tryz.ntmps91
  go_wp2
  go_ret
  exact ⟨HK.out.1,HK.out.2,rfl⟩
theorem prRead_text {A:Nat→Addr} {W0 w:World} {F:Nat→Prop} {b:Nat} {s:De.Rd} (h:PrR A W0 F b s w) (hE:AllErrs W0 A) (tag:Int) (f:Nat) (caps:Array Value) (r:List Nat→Except Nat (World→Value→Prop))
  (hr:∀ l k,r l=.error k→k≠0) (hV:∀ l V,r l=.ok V→∀ w2 v x,w.grownBy w2 none→V w2 v→V (w2.setCell ⟨b,0,none⟩ x) v)
  (hen:∀ args w,(callFunc f args).run Tryz.prog w=.ok (.enter f args) w) (hB:∀ l a c,(∀ x∈l,x<256)→l.length≤65530→(l.length≤s.top.length∧Top1 s l)→Bytes w (.slice a l.length c) l→Whole0 (.slice a l.length c)→Calls Tryz.prog f (#[.slice a l.length c]++caps) w fun e w'=>GetPost A w w' (r l) e) :
  Calls Tryz.prog 81 #[.pointer (some ⟨b,0,none⟩),.int .i64 tag,.func (.func f) #[] caps] w fun e w'=>PrROut A W0 F b w w' (.string ByteArray.empty) (readP s tag r) e:=by
 have HX:=hid h
 by_cases he:s.e=0
 ·obtain ⟨la,lc,oa,oc,h1,h2⟩:=h.at0 he
  have HED:Hid (w.cell? ⟨2,0,none⟩=some (errV A 2)∧w.cell? ⟨4,0,none⟩=some (errV A 5)):=hid (by
   have hEE:=hE.grown h.base
   have e5:=errs_at hEE 2 (by decide)
   have e6:=errs_at hEE 5 (by decide)
   simp only[errVars,List.getD_cons_zero,List.getD_cons_succ,Nat.add_one_sub_one] at e5 e6
   exact ⟨e5,e6⟩)
  have c0:w.cell? ⟨b,0,none⟩=some (.slice la (De.elems s.top).length lc):=cell_blk h1 0 rfl
  have f0:=free_blk h1 0
  have c2:w.cell? ⟨b,2,none⟩=some .nilIface:=cell_blk h1 2 rfl
  have hbl:=blk_lt h1
  by_cases ht:s.top=[]
  ·have hst:readP s tag r=({ s with e:=2 },none):=by unfold readP nextP;rw[if_neg (by simp[he]),if_pos ht]
   rw[hst]
   have HF:=hid (prFailR_any h 2 (by decide))
   rw[if_pos he] at HF
   have e2:=HED.out.1
   replace c0:w.cell? ⟨b,0,none⟩=some (.slice la 0 lc):=by rw[c0,ht];rfl
   clear h he ht hst hE hB h1 h2 hr hV
   go_enter Tryz.func81,Tryz.ntmps81
   go_wp2_with (go_at_call 88;refine HF.out.mono ?_;rintro e w3 ⟨rfl,k1,k2⟩;have K1:=hid k1;have K2:=hid k2;clear k1 k2)
   go_ret
   exact ⟨K1.out,K2.out,rfl⟩
  ·obtain ⟨g,o,t,i,m,ya,yc,rfl,hgs,hnl,hq,hn,d0,d1,dB,dW⟩:=h2.first he ht
   obtain ⟨t',i',m',hq',hel,hkn,hm,_,h8,hml,_⟩:=De.sane_first h2.sane he ht
   rw[hq] at hq'
   have hq2:=Except.ok.inj hq'
   simp only[Prod.mk.injEq] at hq2
   obtain ⟨rfl,rfl,rfl⟩:=hq2
   by_cases htt:(t:Int)=tag
   ·subst htt
    obtain ⟨l,hl⟩:∃ l,l=(s.top.drop i).take m:=⟨_,rfl⟩
    rw[←hl] at d1 dB dW h8 hml
    have HBd:=hid (hB l ya yc h8 (by omega) ⟨by rw[hl,List.length_take,List.length_drop];omega,_,_,_,hq,hl⟩ dB dW)
    have H1:=hid h1
    obtain ⟨N,hN⟩:∃ N,N=(De.elems s.top).length:=⟨_,rfl⟩
    rw[←hN] at c0 hn H1 hnl
    have HC:=hid c0
    have hNi:(0:Int)<(N:Int):=by omega
    have HL:Hid (∀ w2,w.grownBy w2 none→w2.cell? ⟨b,0,none⟩=some (.slice (some ⟨g,o,none⟩) N lc)∧w2.frozen? ⟨b,0,none⟩=false∧b<w2.heap.size):=hid (fun w2 hg=>by
     have hb2:=(hg.block b (blk_lt H1.out) (by simp)).trans H1.out
     exact ⟨cell_blk hb2 0 rfl,free_blk hb2 0,blk_lt hb2⟩)
    cases hrl:r l with
    |error k =>
     have hk:=hr l k hrl
     have hst:readP s (t:Int) r=({ s with top:=s.top.drop (i+m),e:=k },none):=by
      unfold readP nextP;rw[if_neg (by simp[he]),if_neg ht,hq]
      simp only[ne_eq,not_true_eq_false,if_false,←hl,hrl]
     rw[hst]
     rw[hrl] at HBd
     have HF:Hid (∀ w2,w.grownBy w2 none→Calls Tryz.prog 88 #[.pointer (some ⟨b,0,none⟩),errV A k] w2 fun e w'=>PrRPost A W0 F b w w' { s with e:=k } e):=hid (fun w2 hg=>(prFailR_any (HX.out.grow hg) k hk).mono (fun e w' hp=>by
      rw[if_pos he] at hp
      exact HX.out.after hg hp))
     have HK:=hid hk
     clear h he ht hst hE hB h1 h2 hr hV hN hn hnl dB dW hel hkn hm h8 hml hq hrl hk hq' hl
     go_enter Tryz.func81,Tryz.ntmps81
     go_wp2_with (first
      |((with_reducible refine HBd.out.mono ?_);rintro e w2 ⟨hg2,u,rfl⟩;have HG2:=hid hg2;clear hg2)
      |(go_at_call 88;refine (HF.out _ HG2.out).mono ?_;rintro e w3 ⟨rfl,k1,k2⟩;have K1:=hid k1;have K2:=hid k2;clear k1 k2))
     go_ret
     exact ⟨K1.out,K2.out.err_any HK.out rfl,rfl⟩
    |ok V =>
     have hst:readP s (t:Int) r=({ s with top:=s.top.drop (i+m) },some V):=by
      unfold readP nextP;rw[if_neg (by simp[he]),if_neg ht,hq]
      simp only[ne_eq,not_true_eq_false,if_false,←hl,hrl]
     rw[hst]
     rw[hrl] at HBd
     have HT:Hid (∀ w2 n c2 o2 v,w.grownBy w2 none→V w2 v→n+1=N→n≤c2→(n=0∨o2=o+2)→PrROut A W0 F b w (w2.setCell ⟨b,0,none⟩ (.slice (some ⟨g,o2,none⟩) n c2)) (.string ByteArray.empty) ({ s with top:=s.top.drop (i+m) },some V) (.returned v)):=hid (fun w2 n c2 o2 v hg hv hn2 hc2 ho2=>by
      rw[←hN] at h2
      have hT:=h.took (o2:=o2) hg H1.out he h2 ht hq (n:=n) (by omega) hc2 ho2
      exact ⟨hT.1,hT.2,v,rfl,hV l V hrl _ _ _ hg hv⟩)
     have hN1:(1:Int)≤(N:Int):=by omega
     have hNl:(N:Int)≤(lc:Int):=by omega
     have HN:=hid hn
     have HNL:=hid hnl
     clear h he ht hst hE hB h1 h2 hr hV hN hn hnl dB dW hel hkn hm h8 hml hq hrl hq' hl
     go_enter Tryz.func81,Tryz.ntmps81
     go_wp2_with (first
      |((with_reducible refine HBd.out.mono ?_);rintro e w2 ⟨hg2,v,rfl,hv⟩;obtain ⟨c0b,f0b,hbb⟩:=HL.out w2 hg2;have HG2:=hid hg2;have HVV:=hid hv;clear hg2 hv))
     all_goals (go_ret;exact HT.out w2 _ _ _ v HG2.out HVV.out (by omega) (by omega) (by omega))
   ·have hst:readP s tag r=({ s with e:=5 },none):=by unfold readP nextP;rw[if_neg (by simp[he]),if_neg ht,hq];simp only[ne_eq,htt,not_false_eq_true,if_true]
    rw[hst]
    have HF:=hid (prFailR_any h 5 (by decide))
    rw[if_pos he] at HF
    have e5:=HED.out.2
    obtain ⟨N,hN⟩:∃ N,N=(De.elems s.top).length:=⟨_,rfl⟩
    rw[←hN] at c0 hn
    have hNi:(0:Int)<(N:Int):=by omega
    have htb:((t:Int)==tag)=false:=by simpa using htt
    clear h he ht hst hE hB h1 h2 hr hV hN hn hnl dB dW hel hkn hm h8 hml hq
    go_enter Tryz.func81,Tryz.ntmps81
    go_wp2_with (go_at_call 88;refine HF.out.mono ?_;rintro e w3 ⟨rfl,k1,k2⟩;have K1:=hid k1;have K2:=hid k2;clear k1 k2)
    go_ret
    exact ⟨K1.out,K2.out,rfl⟩
 ·have hst:readP s tag r=(s,none):=by unfold readP nextP;rw[if_pos (by simp[he])]
  rw[hst]
  obtain ⟨lv,ov,h1⟩:=h.at1 he
  have HK:=hid HX.out.same
  have c2:=cell_blk h1 2 rfl
  clear h he hE hB hst h1
  go_enter Tryz.func81,Tryz.ntmps81
  go_wp2
  go_ret
  exact ⟨HK.out.1,HK.out.2,rfl⟩
theorem prRead_els {A:Nat→Addr} {W0 w:World} {F:Nat→Prop} {b:Nat} {s:De.Rd} (h:PrR A W0 F b s w) (hE:AllErrs W0 A) (tag:Int) (f:Nat) (caps:Array Value) (r:List Nat→Except Nat (World→Value→Prop))
  (hr:∀ l k,r l=.error k→k≠0) (hV:∀ l V,r l=.ok V→∀ w2 v x,w.grownBy w2 none→V w2 v→V (w2.setCell ⟨b,0,none⟩ x) v)
  (hen:∀ args w,(callFunc f args).run Tryz.prog w=.ok (.enter f args) w) (hB:∀ l a c,(∀ x∈l,x<256)→l.length≤65530→(l.length≤s.top.length∧Top1 s l)→Bytes w (.slice a l.length c) l→Whole0 (.slice a l.length c)→Calls Tryz.prog f (#[.slice a l.length c]++caps) w fun e w'=>GetPost A w w' (r l) e) :
  Calls Tryz.prog 78 #[.pointer (some ⟨b,0,none⟩),.int .i64 tag,.func (.func f) #[] caps] w fun e w'=>PrROut A W0 F b w w' (.slice none 0 0) (readP s tag r) e:=by
 have HX:=hid h
 by_cases he:s.e=0
 ·obtain ⟨la,lc,oa,oc,h1,h2⟩:=h.at0 he
  have HED:Hid (w.cell? ⟨2,0,none⟩=some (errV A 2)∧w.cell? ⟨4,0,none⟩=some (errV A 5)):=hid (by
   have hEE:=hE.grown h.base
   have e5:=errs_at hEE 2 (by decide)
   have e6:=errs_at hEE 5 (by decide)
   simp only[errVars,List.getD_cons_zero,List.getD_cons_succ,Nat.add_one_sub_one] at e5 e6
   exact ⟨e5,e6⟩)
  have c0:w.cell? ⟨b,0,none⟩=some (.slice la (De.elems s.top).length lc):=cell_blk h1 0 rfl
  have f0:=free_blk h1 0
  have c2:w.cell? ⟨b,2,none⟩=some .nilIface:=cell_blk h1 2 rfl
  have hbl:=blk_lt h1
  by_cases ht:s.top=[]
  ·have hst:readP s tag r=({ s with e:=2 },none):=by unfold readP nextP;rw[if_neg (by simp[he]),if_pos ht]
   rw[hst]
   have HF:=hid (prFailR_any h 2 (by decide))
   rw[if_pos he] at HF
   have e2:=HED.out.1
   replace c0:w.cell? ⟨b,0,none⟩=some (.slice la 0 lc):=by rw[c0,ht];rfl
   clear h he ht hst hE hB h1 h2 hr hV
   go_enter Tryz.func78,Tryz.ntmps78
   go_wp2_with (go_at_call 88;refine HF.out.mono ?_;rintro e w3 ⟨rfl,k1,k2⟩;have K1:=hid k1;have K2:=hid k2;clear k1 k2)
   go_ret
   exact ⟨K1.out,K2.out,rfl⟩
  ·obtain ⟨g,o,t,i,m,ya,yc,rfl,hgs,hnl,hq,hn,d0,d1,dB,dW⟩:=h2.first he ht
   obtain ⟨t',i',m',hq',hel,hkn,hm,_,h8,hml,_⟩:=De.sane_first h2.sane he ht
   rw[hq] at hq'
   have hq2:=Except.ok.inj hq'
   simp only[Prod.mk.injEq] at hq2
   obtain ⟨rfl,rfl,rfl⟩:=hq2
   by_cases htt:(t:Int)=tag
   ·subst htt
    obtain ⟨l,hl⟩:∃ l,l=(s.top.drop i).take m:=⟨_,rfl⟩
    rw[←hl] at d1 dB dW h8 hml
    have HBd:=hid (hB l ya yc h8 (by omega) ⟨by rw[hl,List.length_take,List.length_drop];omega,_,_,_,hq,hl⟩ dB dW)
    have H1:=hid h1
    obtain ⟨N,hN⟩:∃ N,N=(De.elems s.top).length:=⟨_,rfl⟩
    rw[←hN] at c0 hn H1 hnl
    have HC:=hid c0
    have hNi:(0:Int)<(N:Int):=by omega
    have HL:Hid (∀ w2,w.grownBy w2 none→w2.cell? ⟨b,0,none⟩=some (.slice (some ⟨g,o,none⟩) N lc)∧w2.frozen? ⟨b,0,none⟩=false∧b<w2.heap.size):=hid (fun w2 hg=>by
     have hb2:=(hg.block b (blk_lt H1.out) (by simp)).trans H1.out
     exact ⟨cell_blk hb2 0 rfl,free_blk hb2 0,blk_lt hb2⟩)
    cases hrl:r l with
    |error k =>
     have hk:=hr l k hrl
     have hst:readP s (t:Int) r=({ s with top:=s.top.drop (i+m),e:=k },none):=by
      unfold readP nextP;rw[if_neg (by simp[he]),if_neg ht,hq]
      simp only[ne_eq,not_true_eq_false,if_false,←hl,hrl]
     rw[hst]
     rw[hrl] at HBd
     have HF:Hid (∀ w2,w.grownBy w2 none→Calls Tryz.prog 88 #[.pointer (some ⟨b,0,none⟩),errV A k] w2 fun e w'=>PrRPost A W0 F b w w' { s with e:=k } e):=hid (fun w2 hg=>(prFailR_any (HX.out.grow hg) k hk).mono (fun e w' hp=>by
      rw[if_pos he] at hp
      exact HX.out.after hg hp))
     have HK:=hid hk
     clear h he ht hst hE hB h1 h2 hr hV hN hn hnl dB dW hel hkn hm h8 hml hq hrl hk hq' hl
     go_enter Tryz.func78,Tryz.ntmps78
     go_wp2_with (first
      |((with_reducible refine HBd.out.mono ?_);rintro e w2 ⟨hg2,u,rfl⟩;have HG2:=hid hg2;clear hg2)
      |(go_at_call 88;refine (HF.out _ HG2.out).mono ?_;rintro e w3 ⟨rfl,k1,k2⟩;have K1:=hid k1;have K2:=hid k2;clear k1 k2))
     go_ret
     exact ⟨K1.out,K2.out.err_any HK.out rfl,rfl⟩
    |ok V =>
     have hst:readP s (t:Int) r=({ s with top:=s.top.drop (i+m) },some V):=by
      unfold readP nextP;rw[if_neg (by simp[he]),if_neg ht,hq]
      simp only[ne_eq,not_true_eq_false,if_false,←hl,hrl]
     rw[hst]
     rw[hrl] at HBd
     have HT:Hid (∀ w2 n c2 o2 v,w.grownBy w2 none→V w2 v→n+1=N→n≤c2→(n=0∨o2=o+2)→PrROut A W0 F b w (w2.setCell ⟨b,0,none⟩ (.slice (some ⟨g,o2,none⟩) n c2)) (.slice none 0 0) ({ s with top:=s.top.drop (i+m) },some V) (.returned v)):=hid (fun w2 n c2 o2 v hg hv hn2 hc2 ho2=>by
      rw[←hN] at h2
      have hT:=h.took (o2:=o2) hg H1.out he h2 ht hq (n:=n) (by omega) hc2 ho2
      exact ⟨hT.1,hT.2,v,rfl,hV l V hrl _ _ _ hg hv⟩)
     have hN1:(1:Int)≤(N:Int):=by omega
     have hNl:(N:Int)≤(lc:Int):=by omega
     have HN:=hid hn
     have HNL:=hid hnl
     clear h he ht hst hE hB h1 h2 hr hV hN hn hnl dB dW hel hkn hm h8 hml hq hrl hq' hl
     go_enter Tryz.func78,Tryz.ntmps78
     go_wp2_with (first
      |((with_reducible refine HBd.out.mono ?_);rintro e w2 ⟨hg2,v,rfl,hv⟩;obtain ⟨c0b,f0b,hbb⟩:=HL.out w2 hg2;have HG2:=hid hg2;have HVV:=hid hv;clear hg2 hv))
     all_goals (go_ret;exact HT.out w2 _ _ _ v HG2.out HVV.out (by omega) (by omega) (by omega))
   ·have hst:readP s tag r=({ s with e:=5 },none):=by unfold readP nextP;rw[if_neg (by simp[he]),if_neg ht,hq];simp only[ne_eq,htt,not_false_eq_true,if_true]
    rw[hst]
    have HF:=hid (prFailR_any h 5 (by decide))
    rw[if_pos he] at HF
    have e5:=HED.out.2
    obtain ⟨N,hN⟩:∃ N,N=(De.elems s.top).length:=⟨_,rfl⟩
    rw[←hN] at c0 hn
    have hNi:(0:Int)<(N:Int):=by omega
    have htb:((t:Int)==tag)=false:=by simpa using htt
    clear h he ht hst hE hB h1 h2 hr hV hN hn hnl dB dW hel hkn hm h8 hml hq
    go_enter Tryz.func78,Tryz.ntmps78
    go_wp2_with (go_at_call 88;refine HF.out.mono ?_;rintro e w3 ⟨rfl,k1,k2⟩;have K1:=hid k1;have K2:=hid k2;clear k1 k2)
    go_ret
    exact ⟨K1.out,K2.out,rfl⟩
 ·have hst:readP s tag r=(s,none):=by unfold readP nextP;rw[if_pos (by simp[he])]
  rw[hst]
  obtain ⟨lv,ov,h1⟩:=h.at1 he
  have HK:=hid HX.out.same
  have c2:=cell_blk h1 2 rfl
  clear h he hE hB hst h1
  go_enter Tryz.func78,Tryz.ntmps78
  go_wp2
  go_ret
  exact ⟨HK.out.1,HK.out.2,rfl⟩
section
variable {A:Nat→Addr} {W0 w w2:World} {F:Nat→Prop} {b:Nat} {s:De.Rd}
theorem PrE.last {lv:Value} {oa:Option Addr} {N oc:Nat} {x:List Nat} {r:List (List Nat)} (h:PrE W0 F b lv (.slice oa N oc) s w) (hl:s.left=x :: r):∃ og y,oa=some ⟨og,0,none⟩∧og<w.heap.size∧N=r.length+1∧N≤oc∧w.cell? ⟨og,r.length,none⟩=some y ∧
  Sup (ImM W0 F (MutR b (.slice oa N oc))) w (fun W=>ElsV W y (De.elems x)):=by
 obtain ⟨ys,k1,k2⟩:=h.out
 have k1':=k1
 obtain ⟨oa',og,oc',he,hc,_,_,_,hop⟩:=own_formN k1
 simp only[Value.slice.injEq] at he
 obtain ⟨rfl,rfl,rfl⟩:=he
 have hlen:s.left.length=r.length+1:=by rw[hl];rfl
 obtain ⟨rfl,hog,hcell,_⟩:=hop (by omega)
 obtain ⟨y,l1,l2⟩:=k2 r.length (by omega)
 refine ⟨og,y,rfl,hog,hlen,hc,hcell _ _ l1,?_⟩
 have e:s.left.reverse.getD r.length []=x:=by rw[hl,List.reverse_cons,List.getD_eq_getElem?_getD,List.getElem?_append_right (by simp)];simp
 rw[e] at l2
 exact l2
theorem PrR.leaves (h:PrR A W0 F b s w) {lv y:Value} {og N oc:Nat} {x:List Nat} {r:List (List Nat)} (h1:w.heap[b]?=some (.cells #[lv,.slice (some ⟨og,0,none⟩) N oc,.nilIface] 126 (0,0))) (he:s.e=0) (h2:PrE W0 F b lv (.slice (some ⟨og,0,none⟩) N oc) s w) (hl:s.left=x :: r)
  (hy:Sup (ImM W0 F (MutR b (.slice (some ⟨og,0,none⟩) N oc))) w (fun W=>ElsV W y (De.elems x))) :
  Upto F w ((w.setCell ⟨b,0,none⟩ y).setCell ⟨b,1,none⟩ (.slice (some ⟨og,0,none⟩) r.length oc))∧PrR A W0 (Ext F w ((w.setCell ⟨b,0,none⟩ y).setCell ⟨b,1,none⟩ (.slice (some ⟨og,0,none⟩) r.length oc))) b { s with top:=x,left:=r } ((w.setCell ⟨b,0,none⟩ y).setCell ⟨b,1,none⟩ (.slice (some ⟨og,0,none⟩) r.length oc)):=by
 obtain ⟨w',hw'⟩:∃ w',w'=(w.setCell ⟨b,0,none⟩ y).setCell ⟨b,1,none⟩ (.slice (some ⟨og,0,none⟩) r.length oc):=⟨_,rfl⟩
 rw[←hw']
 have hsz:w'.heap.size=w.heap.size:=by rw[hw',setCell_size,setCell_size]
 have hub:Upto (fun k=>k=b) w w':=by
  rw[hw']
  exact ⟨rfl,rfl,rfl,by rw[setCell_size,setCell_size];exact Nat.le_refl _,fun k hk hm=>(Below.heap_setCell _ _ _ _ (fun e=>hm e)).trans (Below.heap_setCell _ _ _ _ (fun e=>hm e))⟩
 have hu:Upto F w w':=hub.mono (fun k _ hk=>by rw[hk];exact h.mem)
 have hh:w'.heap[b]?=some (.cells #[y,.slice (some ⟨og,0,none⟩) r.length oc,.nilIface] 126 (0,0)):=by
  rw[hw']
  have e1:=setCell_heap (i:=0) h1 y
  have e2:=setCell_heap (i:=1) e1 (.slice (some ⟨og,0,none⟩) r.length oc)
  simpa using e2
 have hM:∀ k,MutR b (.slice (some ⟨og,0,none⟩) N oc) k↔MutR b (.slice (some ⟨og,0,none⟩) r.length oc) k:=fun k=>Iff.rfl
 have huM:Upto (MutR b (.slice (some ⟨og,0,none⟩) N oc)) w w':=hub.mono (fun k _ hk=>.inl hk)
 have hlen:s.left.length=r.length+1:=by rw[hl];rfl
 obtain ⟨ys,k1,k2⟩:=h2.out
 have hN:N=s.left.length:=by
  obtain ⟨oa',og',oc',he',_⟩:=own_formN k1
  simp only[Value.slice.injEq] at he'
  exact he'.2.1
 subst hN
 have hsn:=De.sane_out h2.sane hl
 refine ⟨hu,hu.base h.base (fun k hk=>(h.own k hk).1),ext_own h.base h.own hu.size,.inl h.mem,y,.slice (some ⟨og,0,none⟩) r.length oc,?_,fun _=>?_,?_⟩
 ·rw[errOf,if_pos he];exact hh
 ·refine ⟨hsn,fun k hk=>.inl (h2.mine k hk),h2.rov,imM_keep h.base h.own hy huM (fun k _ hk=>hk),_,own_upto (own_take k1 (by omega)) hub (fun k hk e=>h2.rov (by rw[←e];exact hk)),fun j hj=>?_⟩
  obtain ⟨u,l1,l2⟩:=k2 j (by have:r.length=({ s with top:=x,left:=r }:De.Rd).left.length:=rfl;omega)
  have hj':j<r.length:=hj
  have e:s.left.reverse.getD j []=r.reverse.getD j []:=by rw[hl,List.reverse_cons,List.getD_eq_getElem?_getD,List.getElem?_append_left (by simpa using hj'),←List.getD_eq_getElem?_getD]
  rw[e] at l2
  refine ⟨u,?_,imM_keep h.base h.own l2 huM (fun k _ hk=>hk)⟩
  rw[List.getElem?_take_of_lt (by omega)];exact l1
 ·obtain ⟨k,hk,_⟩:=hsn he
  exact ⟨_,_,_,rfl,by have:r.length=({ s with top:=x,left:=r }:De.Rd).left.length:=rfl;omega⟩
end
theorem prLeave_any {A:Nat→Addr} {W0 w:World} {F:Nat→Prop} {b:Nat} {s:De.Rd} (h:PrR A W0 F b s w) (hE:AllErrs W0 A) :
  Calls Tryz.prog 44 #[.pointer (some ⟨b,0,none⟩)] w fun e w'=>PrRPost A W0 F b w w' (De.leave s) e:=by
 have HX:=hid h
 have HED:Hid (w.cell? ⟨23,0,none⟩=some (errV A 24)∧w.cell? ⟨0,0,none⟩=some (errV A 4)):=hid (by
  have hEE:=hE.grown h.base
  have e5:=errs_at hEE 24 (by decide)
  have e6:=errs_at hEE 4 (by decide)
  simp only[errVars,List.getD_cons_zero,List.getD_cons_succ,Nat.add_one_sub_one] at e5 e6
  exact ⟨e5,e6⟩)
 by_cases he:s.e=0
 ·obtain ⟨la,lc,oa,oc,h1,h2⟩:=h.at0 he
  have c0:w.cell? ⟨b,0,none⟩=some (.slice la (De.elems s.top).length lc):=cell_blk h1 0 rfl
  have c1:w.cell? ⟨b,1,none⟩=some (.slice oa s.left.length oc):=cell_blk h1 1 rfl
  have c2:w.cell? ⟨b,2,none⟩=some .nilIface:=cell_blk h1 2 rfl
  have f0:=free_blk h1 0
  have f1:=free_blk h1 1
  have hbl:=blk_lt h1
  cases hl:s.left with
  |nil =>
   have hst:De.leave s={ s with e:=24 }:=by unfold De.leave;rw[if_neg (by simp[he]),hl]
   rw[hst]
   have HF:=hid (prFailR_any h 24 (by decide))
   rw[if_pos he] at HF
   have e24:=HED.out.1
   replace c1:w.cell? ⟨b,1,none⟩=some (.slice oa 0 oc):=by rw[c1,hl];rfl
   obtain ⟨N,hN⟩:∃ N,N=(De.elems s.top).length:=⟨_,rfl⟩
   rw[←hN] at c0
   clear h he hst hE h1 h2 hN hl
   go_enter Tryz.func44,Tryz.ntmps44
   go_wp2_with (go_at_call 88;refine HF.out.mono ?_;rintro e w3 ⟨rfl,k1,k2⟩;have K1:=hid k1;have K2:=hid k2;clear k1 k2)
   go_returns
   exact ⟨rfl,K1.out,K2.out⟩
  |cons x r =>
   have hk16:s.left.length≤16:=by obtain ⟨k,hk,_⟩:=h2.sane he;omega
   obtain ⟨og,y,rfl,hog,hN1,hNc,d,hy⟩:=h2.last hl
   obtain ⟨ya,yn,yc,rfl⟩:∃ ya yn yc,y=.slice ya yn yc:=by obtain ⟨ya,yg,yo,yc,e,_⟩:=hy.now;exact ⟨_,_,_,e⟩
   obtain ⟨M,hM⟩:∃ M,M=r.length:=⟨_,rfl⟩
   obtain ⟨N1,hN1'⟩:∃ N1,N1=s.left.length:=⟨_,rfl⟩
   have HLV:=hid (h.leaves h1 he h2 hl hy)
   rw[←hM] at hN1 d HLV
   rw[←hN1'] at c1 hN1 hNc hk16
   have hw1:IntKind.i64.wrap ((N1:Int)-1)=(M:Int):=by
    simp only[IntKind.wrap,IntKind.bits,IntKind.signed]
    simp
    omega
   have hM0:¬ ((M:Int)<0):=by omega
   have hM1:(0:Int)≤(M:Int):=by omega
   have hMN:(M:Int)<(N1:Int):=by omega
   have hMc:(M:Int)≤(oc:Int):=by omega
   by_cases ht:s.top=[]
   ·have hst:De.leave s={ s with top:=x,left:=r }:=by unfold De.leave;rw[if_neg (by simp[he]),hl];simp only;rw[if_neg (by simp[ht])]
    rw[hst]
    replace c0:w.cell? ⟨b,0,none⟩=some (.slice la 0 lc):=by rw[c0,ht];rfl
    clear h he hst hE h1 h2 hN1 hN1' hl hy hM HED hk16 ht
    go_enter Tryz.func44,Tryz.ntmps44
    go_wp2
    go_returns
    exact ⟨rfl,HLV.out.1,HLV.out.2⟩
   ·have hst:De.leave s={ s with e:=4 }:=by unfold De.leave;rw[if_neg (by simp[he]),hl];simp only;rw[if_pos ht]
    rw[hst]
    have HF:=hid (prFailR_any h 4 (by decide))
    rw[if_pos he] at HF
    have e4:=HED.out.2
    have hl0:=(top_len h2.sane he).2 ht
    obtain ⟨N,hN⟩:∃ N,N=(De.elems s.top).length:=⟨_,rfl⟩
    rw[←hN] at c0 hl0
    have hNi:(0:Int)<(N:Int):=by omega
    clear h he hst hE h1 h2 hN1 hN1' hl hy hM HED hk16 ht HLV hl0 hN
    go_enter Tryz.func44,Tryz.ntmps44
    go_wp2_with (go_at_call 88;refine HF.out.mono ?_;rintro e w3 ⟨rfl,k1,k2⟩;have K1:=hid k1;have K2:=hid k2;clear k1 k2)
    go_returns
    exact ⟨rfl,K1.out,K2.out⟩
 ·have hst:De.leave s=s:=by unfold De.leave;rw[if_pos (by simp[he])]
  rw[hst]
  obtain ⟨lv,oa,on,oc,hon,h1⟩:=h.at2 he
  have HK:=hid HX.out.same
  have c1:w.cell? ⟨b,1,none⟩=some (.slice oa on oc):=cell_blk h1 1 rfl
  have c2:w.cell? ⟨b,2,none⟩=some (errV A s.e):=cell_blk h1 2 rfl
  clear h he hE hst h1
  go_enter Tryz.func44,Tryz.ntmps44
  go_wp2
  go_returns
  exact ⟨rfl,HK.out.1,HK.out.2⟩
def ofAll (w:World) (b:Nat) (R:Except Nat (List (Nat×List Nat))):Except Nat (World→Value→Prop):=match R with
 |.error k=>.error k
 |.ok ps=>.ok (fun W v=>Sup (fun k=>w.heap.size≤k∧k<W.heap.size) W (fun X=>ElsV X v ps)∧W.cell? ⟨b,1,none⟩=w.cell? ⟨b,1,none⟩)
def getE (w:World) (b:Nat) (tag:Int) (l:List Nat):Except Nat (World→Value→Prop):=if Tl.made tag=true then ofAll w b (De.all l.length l) else .error 5
section
variable {A:Nat→Addr} {W0 w w2:World} {F:Nat→Prop} {b:Nat} {s:De.Rd}
theorem PrR.enters (h:PrR A W0 F b s w) {lv ov ov' v:Value} {ys:List Value} {body:List Nat} {wq w5:World} (h1:w.heap[b]?=some (.cells #[lv,ov,.nilIface] 126 (0,0))) (he:s.e=0) (h2:PrE W0 F b lv ov s w)
  (hs:De.Sane { s with top:=body,left:=s.top :: s.left }) (hv:Sup (ImM W0 F (MutR b ov)) w (fun W=>ElsV W v (De.elems body)))
  (k1:∀ j,j<s.left.length→∃ y,ys[j]?=some y∧Sup (ImM W0 F (MutR b ov)) w (fun W=>ElsV W y (De.elems (s.left.reverse.getD j [])))) (hys:ys.length=s.left.length)
  (hq:w.grownBy wq none) (ho:w5.ownsRow 0 123 1 ov' (s.left.length+1) (ys++[lv])) (hg:wq.grownBy w5 ov.ownBlock) (hb':ov'.ownBlock=ov.ownBlock∨ov'.ownBlock=some wq.heap.size) :
  Upto F w ((w5.setCell ⟨b,1,none⟩ ov').setCell ⟨b,0,none⟩ v)∧PrR A W0 (Ext F w ((w5.setCell ⟨b,1,none⟩ ov').setCell ⟨b,0,none⟩ v)) b { s with top:=body,left:=s.top :: s.left } ((w5.setCell ⟨b,1,none⟩ ov').setCell ⟨b,0,none⟩ v):=by
 obtain ⟨w',hw'⟩:∃ w',w'=(w5.setCell ⟨b,1,none⟩ ov').setCell ⟨b,0,none⟩ v:=⟨_,rfl⟩
 rw[←hw']
 have hbl:=blk_lt h1
 have hsz:w'.heap.size=w5.heap.size:=by rw[hw',setCell_size,setCell_size]
 have hqs:=hq.size
 have hgs:=hg.size
 have hub:Upto (fun k=>k=b) w5 w':=by
  rw[hw']
  exact ⟨rfl,rfl,rfl,by rw[setCell_size,setCell_size];exact Nat.le_refl _,fun k hk hm=>(Below.heap_setCell _ _ _ _ (fun e=>hm e)).trans (Below.heap_setCell _ _ _ _ (fun e=>hm e))⟩
 have hrow:∀ k,k<w.heap.size→ov'.ownBlock=some k→ov.ownBlock=some k:=fun k hk e=>by
  rcases hb' with h3|h3
  ·rw[←h3];exact e
  ·rw[h3] at e
   have:=Option.some.inj e
   omega
 have huM:Upto (MutR b ov) w w':=by
  have u1:Upto (MutR b ov) w wq:=Upto.of_grown _ hq
  have u2:Upto (MutR b ov) wq w5:=Upto.of_row hg (fun k e=>.inl (.inr e.symm.symm))
  have u3:Upto (MutR b ov) w5 w':=hub.mono (fun k _ hk=>.inl hk)
  exact (u1.trans u2 (fun k _ hk=>hk)).trans u3 (fun k _ hk=>hk)
 have hu:Upto F w w':=huM.mono (fun k _ hk=>h2.mine k hk)
 have hb5:w5.heap[b]?=w.heap[b]?:=(hg.block b (by omega) (fun e=>h2.rov e.symm)).trans (hq.block b hbl (by simp))
 have hh:w'.heap[b]?=some (.cells #[v,ov',.nilIface] 126 (0,0)):=by
  rw[hw']
  have e1:=setCell_heap (i:=1) (hb5.trans h1) ov'
  have e2:=setCell_heap (i:=0) e1 v
  simpa using e2
 have hob:ov'.ownBlock≠some b:=fun e=>h2.rov (hrow b hbl e)
 refine ⟨hu,hu.base h.base (fun k hk=>(h.own k hk).1),ext_own h.base h.own hu.size,.inl h.mem,v,ov',?_,fun _=>?_,?_⟩
 ·rw[errOf,if_pos he];exact hh
 ·have hr:∀ k,k<w.heap.size→MutR b ov' k→MutR b ov k:=fun k hk hm=>hm.imp id (hrow k hk)
  refine ⟨hs,fun k hk=>?_,hob,imM_keep h.base h.own hv huM hr,ys++[lv],own_upto ho hub (fun k hk e=>hob (by rw[←e];exact hk)),fun j hj=>?_⟩
  ·rcases hk with hk|hk
   ·exact .inl (hk ▸ h.mem)
   ·rcases hb' with h3|h3
    ·exact .inl (h2.mine k (.inr (h3 ▸ hk)))
    ·have e:=own_low ho hk
     rw[h3] at hk
     have:=Option.some.inj hk
     exact .inr (by omega)
  ·have hj:j<s.left.length+1:=hj
   rw[List.reverse_cons]
   by_cases hjn:j=s.left.length
   ·refine ⟨lv,by rw[hjn,←hys,List.getElem?_append_right (Nat.le_refl _)];simp,?_⟩
    have e:(s.left.reverse++[s.top]).getD j []=s.top:=by rw[hjn,List.getD_eq_getElem?_getD,List.getElem?_append_right (by simp)];simp
    rw[e]
    exact imM_keep h.base h.own h2.left huM hr
   ·obtain ⟨y,l1,l2⟩:=k1 j (by omega)
    have e:(s.left.reverse++[s.top]).getD j []=s.left.reverse.getD j []:=by rw[List.getD_eq_getElem?_getD,List.getElem?_append_left (by simp;omega),←List.getD_eq_getElem?_getD]
    rw[e]
    exact ⟨y,by rw[List.getElem?_append_left (by omega)];exact l1,imM_keep h.base h.own l2 huM hr⟩
 ·obtain ⟨k,hk,_⟩:=hs he
  obtain ⟨oa,og,oc,rfl,_⟩:=own_formN ho
  exact ⟨_,_,_,rfl,by simp only[List.length_cons] at hk;omega⟩
end
theorem entClo_any (A:Nat→Addr) (l:List Nat) (a:Option Addr) (c tb:Nat) (tag:Int) (w:World) (ht:w.cell? ⟨tb,0,none⟩=some (.int .i64 tag)) (h8:∀ x∈l,x<256) (hl:l.length≤65530) (hB:Bytes w (.slice a l.length c) l) (h0:Whole0 (.slice a l.length c)) (hE:AllErrs w A) (b:Nat) (hbl:b<w.heap.size) :
  Calls Tryz.prog 79 #[.slice a l.length c,.pointer (some ⟨tb,0,none⟩)] w fun e w'=>GetPost A w w' (getE w b tag l) e:=by
 have HM:=hid (made_any tag)
 have HA:=hid (all_any A (.slice a l.length c) l w hB h0 (by omega) hE)
 have HED:Hid (w.cell? ⟨4,0,none⟩=some (errV A 5)):=hid (by
  have e6:=errs_at hE 5 (by decide)
  simp only[errVars,List.getD_cons_zero,List.getD_cons_succ,Nat.add_one_sub_one] at e6
  exact e6)
 have e5:=HED.out
 obtain ⟨n,hn⟩:∃ n,n=l.length:=⟨_,rfl⟩
 cases hm:Tl.made tag with
 |false =>
  have hst:getE w b tag l=.error 5:=by unfold getE;rw[if_neg (by rw[hm];simp)]
  rw[hst]
  rw[hm] at HM
  clear hB h0 hE h8 hst hm HA
  go_enter Tryz.func79,Tryz.ntmps79
  go_wp2_with (go_at_call 55;refine (HM.out _).mono ?_;rintro e w2 ⟨rfl,hw2⟩;have hw2':=hw2.symm;subst hw2';clear hw2)
  go_quiet (fail)
  go_wp2
  go_returns
  exact ⟨grown_drewN (grown_refl _ _) _,_,rfl⟩
 |true =>
  obtain ⟨R,hR⟩:∃ R,R=De.all l.length l:=⟨_,rfl⟩
  have hst:getE w b tag l=ofAll w b R:=by unfold getE;rw[if_pos hm,hR]
  rw[←hR] at HA
  rw[hst]
  rw[hm] at HM
  have HA2:Hid (Calls Tryz.prog 77 #[.slice a l.length c] w fun e w'=>∃ u v,e=.returned (.tuple #[u,v])∧GetPost A w w' (ofAll w b R) (.returned (.tuple #[u,v]))):=hid (HA.out.mono (fun e w' hp=>by
   clear hst hR
   cases R with
   |error k =>
    obtain ⟨rfl,hg⟩:=hp
    exact ⟨_,_,rfl,hg,_,rfl⟩
   |ok ps =>
    obtain ⟨v,rfl,hf⟩:=hp
    exact ⟨_,_,rfl,hf.grown,v,rfl,hf.els,World.cell?_of_block (hf.grown.block b hbl (by simp))⟩))
  clear hB h0 hE h8 hst hm HA hR
  generalize ofAll w b R=G at *
  go_enter Tryz.func79,Tryz.ntmps79
  go_wp2_with (first
   |(go_at_call 55;refine (HM.out _).mono ?_;rintro e w2 ⟨rfl,hw2⟩;have hw2':=hw2.symm;subst hw2';clear hw2)
   |(go_at_call 77;refine HA2.out.mono ?_;rintro e w3 ⟨u,v,rfl,hq⟩;have HQ:=hid hq;clear hq))
  go_returns
  exact HQ.out
section
variable {P:Program}
theorem step_appN2 {w:World} {ops:Array Oper} {o:Oper} {a:Act} {K:Act→World→Prop} {Q:Exit→Act→World→Prop} {E:Prop} (hgd:o.guard=none) (s x:Operand) (t:TypeId)
  (ho:o.op=.call { callee:=.builtin .append,args:=#[s,x],argTypes:=#[t,t] })
  (base:Nat) (e:TypeId) (z:Value) (size bytes:Nat) (ht:P.underlying t=some (.slice e)) (hi:(P.info? e).map (fun i=>(i.zero,i.size,i.bytes))=some (some z,size,bytes)) (hzs:z.cells.size=size) (hsz:0<size) (hby:bytes≤64)
  (v:Value) (n:Nat) (xs:List Value) (hs:a.eval s=v) (hown:w.ownsRow base e size v n xs)
  (ad:Addr) (m c:Nat) (news:List Value) (hx:a.eval x=.slice (some ad) m c) (hl:news.length=m*size) (hnews:∀ j u,news[j]?=some u→w.cell? (ad.add j)=some u) (h1:∀ u∈news,u.oneCell'=true)
  (h63:n+m≤1099511627776) (hbase:base≤w.heap.size)
  (h:∀ v' w',w'.ownsRow base e size v' (n+m) (xs++news)→w.grownBy w' v.ownBlock→(v'.ownBlock=v.ownBlock∨v'.ownBlock=some w.heap.size)→K (a.put o.dst v') w'):if Region.wanted o (yielded ops a.tmps)=true then Oper.wp P o a w K Q else E:=by
 have hw:Region.wanted o (yielded ops a.tmps)=true:=by simp[Region.wanted,hgd]
 rw[if_pos hw]
 obtain ⟨i,h1',h2',h3',h4'⟩:=info_parts hi
 obtain ⟨v',w',hr,k1,k2,k3⟩:=run_append_sharpN (P:=P) w base t o.type e i z size ht h1' h2' h3' hzs hsz (by rw[h4'];exact hby) v n xs hown ad m c news hl hnews h1 h63 hbase
 unfold Oper.wp execOp
 simp only[ho,resolve,invoke,builtin,Sem.run_bind,Sem.run_pure,Result.andThen_ok,List.map_toArray,List.map_cons,List.map_nil,hs,hx,hr]
 exact h v' w' k1 k2 k3
end
theorem iLE:((Tryz.prog.info? 123).map (fun i=>(i.zero,i.size,i.bytes)))=some (some (.slice none 0 0),1,24):=by kernel_rfl
theorem enter_cases {s:De.Rd} (hs:De.Sane s) (tag:Int) (W:World) (b:Nat) :
  (∃ s2,readP s tag (getE W b tag)=(s2,none)∧s2.e≠0∧(De.enter s tag).2=false∧(De.enter s tag).1.e=s2.e) ∨
  (∃ s2 body,readP s tag (getE W b tag)=(s2,some (fun W' v=>Sup (fun k=>W.heap.size≤k∧k<W'.heap.size) W' (fun X=>ElsV X v (De.elems body))∧W'.cell? ⟨b,1,none⟩=W.cell? ⟨b,1,none⟩))∧s2.e=0∧s2.left=s.left∧De.enter s tag=({ s2 with top:=body,left:=s2.top :: s2.left },true)∧De.Sane { s2 with top:=body,left:=s2.top :: s2.left }):=by
 by_cases he:s.e=0
 ·by_cases ht:s.top=[]
  ·refine .inl ⟨{ s with e:=2 },?_,by simp,?_,?_⟩
   ·unfold readP nextP;rw[if_neg (by simp[he]),if_pos ht]
   all_goals
    unfold De.enter De.next
    rw[if_neg (by simp[he]),if_neg (by simp[ht]),if_neg (by simp[he]),ht]
    rfl
  ·obtain ⟨t,i,n,hq,hel,hkn,hn,het,h8,hnl,hall⟩:=De.sane_first hs he ht
   by_cases htt:(t:Int)=tag
   ·subst htt
    by_cases hm:Tl.made (t:Int)=true
    ·refine .inr ⟨{ s with top:=s.top.drop (i+n) },(s.top.drop i).take n,?_,he,rfl,?_,?_⟩
     ·unfold readP nextP
      rw[if_neg (by simp[he]),if_neg ht,hq]
      simp only[ne_eq,not_true_eq_false,if_false]
      unfold getE
      rw[if_pos hm,hall hm]
      rfl
     ·unfold De.enter
      rw[if_neg (by simp[he]),if_neg (by simp[hm])]
      unfold De.next
      rw[if_neg (by simp[he]),hq]
      simp
     ·exact De.sane_into hs ht hq hm
    ·refine .inl ⟨{ s with top:=s.top.drop (i+n),e:=5 },?_,by simp,?_,?_⟩
     ·unfold readP nextP
      rw[if_neg (by simp[he]),if_neg ht,hq]
      simp only[ne_eq,not_true_eq_false,if_false]
      unfold getE
      rw[if_neg hm]
     all_goals
      unfold De.enter
      rw[if_neg (by simp[he]),if_pos ⟨ht,by simpa using hm⟩]
   ·refine .inl ⟨{ s with e:=5 },?_,by simp,?_,?_⟩
    ·unfold readP nextP
     rw[if_neg (by simp[he]),if_neg ht,hq]
     simp only[ne_eq,htt,not_false_eq_true,if_true]
    all_goals
     unfold De.enter
     rw[if_neg (by simp[he])]
     by_cases hm:Tl.made tag=false
     ·rw[if_pos ⟨ht,hm⟩]
     ·rw[if_neg (by simp[hm])]
      have h0:tag≠0:=by intro h;subst h;exact hm (by decide)
      unfold De.next
      rw[if_neg (by simp[he]),hq]
      simp[h0,htt]
 ·refine .inl ⟨s,?_,he,?_,?_⟩
  ·unfold readP nextP;rw[if_pos (by simp[he])]
  all_goals
   unfold De.enter
   rw[if_pos (by simp[he])]
theorem tagOf_ne (k:Int):De.tagOf k≠0:=by
 unfold De.tagOf
 repeat' split
 all_goals decide
theorem ask_read {s:De.Rd} (hs:De.Sane s) (k tag least most:Int) (h1:k≠1) (h2:k≠2) (h11:k≠11) (r:List Nat→Except Nat (World→Value→Prop))
  (hr:∀ l,match De.said k least most l with
   |.error e=>r l=.error e
   |.ok _=>∃ V,r l=.ok V) :
  (readP s (De.tagOf k) r).1.e=(De.ask s k tag least most).1.e∧((readP s (De.tagOf k) r).1.e=0→(readP s (De.tagOf k) r).1=(De.ask s k tag least most).1) ∧
  (match (readP s (De.tagOf k) r).2 with
   |none=>(De.ask s k tag least most).2=De.none0
   |some V=>∃ l,r l=.ok V∧De.said k least most l=.ok (De.ask s k tag least most).2):=by
 have ht0:=tagOf_ne k
 unfold De.ask
 by_cases he:s.e=0
 ·rw[if_neg (by simp[he]),if_neg h1,if_neg h2,if_neg h11]
  by_cases ht:s.top=[]
  ·have e1:readP s (De.tagOf k) r=({ s with e:=2 },none):=by unfold readP nextP;rw[if_neg (by simp[he]),if_pos ht]
   have e2:De.next s (De.tagOf k)=({ s with e:=2 },none):=by unfold De.next;rw[if_neg (by simp[he]),ht];rfl
   rw[e1,e2]
   exact ⟨rfl,fun h=>rfl,rfl⟩
  ·obtain ⟨t,i,n,hq,_⟩:=De.sane_first hs he ht
   by_cases htt:(t:Int)=De.tagOf k
   ·have e2:De.next s (De.tagOf k)=({ s with top:=s.top.drop (i+n) },some ((s.top.drop i).take n,s.top.take (i+n))):=by
     unfold De.next;rw[if_neg (by simp[he]),hq];simp[htt]
    rw[e2]
    have hl:=hr ((s.top.drop i).take n)
    cases hsd:De.said k least most ((s.top.drop i).take n) with
    |error e =>
     rw[hsd] at hl
     have hl:r ((s.top.drop i).take n)=.error e:=hl
     have e1:readP s (De.tagOf k) r=({ s with top:=s.top.drop (i+n),e:=e },none):=by
      unfold readP nextP;rw[if_neg (by simp[he]),if_neg ht,hq];simp[htt,hl]
     rw[e1]
     simp only[hsd]
     exact ⟨trivial,fun h=>trivial,trivial⟩
    |ok v =>
     rw[hsd] at hl
     obtain ⟨V,hV⟩:∃ V,r ((s.top.drop i).take n)=.ok V:=hl
     have e1:readP s (De.tagOf k) r=({ s with top:=s.top.drop (i+n) },some V):=by
      unfold readP nextP;rw[if_neg (by simp[he]),if_neg ht,hq];simp[htt,hV]
     rw[e1]
     simp only[hsd]
     exact ⟨trivial,fun h=>trivial,_,hV,hsd⟩
   ·have e1:readP s (De.tagOf k) r=({ s with e:=5 },none):=by unfold readP nextP;rw[if_neg (by simp[he]),if_neg ht,hq];simp[htt]
    have e2:De.next s (De.tagOf k)=({ s with e:=5 },none):=by unfold De.next;rw[if_neg (by simp[he]),hq];simp[htt,ht0]
    rw[e1,e2]
    exact ⟨rfl,fun h=>rfl,rfl⟩
 ·have e1:readP s (De.tagOf k) r=(s,none):=by unfold readP nextP;rw[if_pos (by simp[he])]
  rw[if_pos (by simp[he]),e1]
  exact ⟨rfl,fun h=>rfl,rfl⟩
theorem said_num (k least most:Int) (hk:k=3∨k=4) (l:List Nat):De.said k least most l=(match Wh.get l with
  |.error e=>.error e
  |.ok n=>if n<least∨most<n then .error 1 else .ok { De.none0 with n:=n }):=by
 unfold De.said
 rw[if_pos hk]
 rfl
theorem PrR.new1 {A:Nat→Addr} {W0 w w3:World} {l:List Nat} {k:Nat} (hb:W0.grownBy w none) (hg:w.grownBy w3 none) (hl:Tl.levels l=.error k) (hk:k≠0) :
  PrR A W0 (fun i=>w.heap.size≤i∧i<(w3.alloc (.cells #[.slice none 0 0,.slice none 0 0,errV A k] 126)).heap.size) w3.heap.size (De.start l) (w3.alloc (.cells #[.slice none 0 0,.slice none 0 0,errV A k] 126)):=by
 have h1:=hb.size
 have h2:=hg.size
 have hs:(De.start l).e=k:=by unfold De.start;rw[hl]
 refine ⟨grown_alloc (grown_join hb hg) _,fun i hi=>⟨by omega,hi.2⟩,⟨h2,by rw[alloc_size];omega⟩,.slice none 0 0,.slice none 0 0,?_,fun he=>absurd (hs ▸ he) hk,none,0,0,rfl,by omega⟩
 rw[hs,errOf,if_neg hk]
 exact alloc_at _ _
theorem PrR.new0 {A:Nat→Addr} {W0 w w2 w3:World} {l:List Nat} {m:Nat} {a:Option Addr} {n c:Nat} (hb:W0.grownBy w none) (hg:w.grownBy w2 none) (h8:∀ x∈l,x<256) (hl:Tl.levels l=.ok m) (hf:FrE w2 w3 (.slice a n c) (De.elems l)) :
  PrR A W0 (fun i=>w.heap.size≤i∧i<(w3.alloc (.cells #[.slice a n c,.slice none 0 0,.nilIface] 126)).heap.size) w3.heap.size (De.start l) (w3.alloc (.cells #[.slice a n c,.slice none 0 0,.nilIface] 126)):=by
 have h1:=hb.size
 have h2:=hg.size
 have h3:=hf.grown.size
 have hst:De.start l=⟨0,l,[]⟩:=by unfold De.start;rw[hl]
 have hsn:=De.sane_start h8
 rw[hst] at hsn ⊢
 have hgg:=grown_join hb (grown_join hg hf.grown)
 refine ⟨grown_alloc hgg _,fun i hi=>⟨by omega,hi.2⟩,⟨by omega,by rw[alloc_size];omega⟩,.slice a n c,.slice none 0 0,?_,fun he=>?_,none,0,0,rfl,by omega⟩
 ·rw[errOf,if_pos rfl]
  exact alloc_at _ _
 ·refine ⟨hsn,fun i hi=>?_,by simp[Value.ownBlock],?_,[],⟨rfl,.inl ⟨rfl,rfl⟩⟩,fun j hj=>absurd hj (by simp)⟩
  ·rcases hi with hi|hi
   ·subst hi;exact ⟨by omega,by rw[alloc_size];omega⟩
   ·exact absurd hi (by simp[Value.ownBlock])
  ·refine (hf.els.grown (World.grownBy_alloc w3 _ none)).mono (fun i hi=>⟨.inl ⟨by omega,by rw[alloc_size];omega⟩,fun hm=>?_⟩) (fun i hi=>?_)
   ·rcases hm with hm|hm
    ·omega
    ·exact absurd hm (by simp[Value.ownBlock])
   ·rcases hi.1 with hi|hi
    ·exact hi.2
    ·rw[alloc_size];omega
theorem rrRead_any (A:Nat→Addr) (va:Option Addr) (vc:Nat) (l:List Nat) (W0 w:World) (hb:W0.grownBy w none) (hB:Bytes w (.slice va l.length vc) l) (h0:Whole0 (.slice va l.length vc)) (hl:l.length≤1000000) (hE:AllErrs w A) :
  Calls Tryz.prog 34 #[.slice va l.length vc] w fun e w'=>∃ b,e=.returned (.pointer (some ⟨b,0,none⟩))∧w.heap.size≤b∧w.grownBy w' none∧PrR A W0 (fun k=>w.heap.size≤k∧k<w'.heap.size) b (De.start l) w':=by
 have h8:=hB.lt
 have hC:=check_any A (.slice va l.length vc) l w hB h0 (by omega) hE
 cases hlev:Tl.levels l with
 |error k =>
  have hk:=levels_err hlev
  rw[hlev] at hC
  unfold chkV at hC
  have HC:=hid hC
  have HN:=hid (fun w3 (hg:w.grownBy w3 none)=>PrR.new1 (A:=A) hb hg hlev hk)
  generalize De.start l=s at *
  generalize l.length=n at *
  clear hB h0 hE h8 hC hlev hl hb
  go_enter Tryz.func34,Tryz.ntmps34
  go_wp2_with (go_at_call 76;refine HC.out.mono ?_;rintro e w2 ⟨rfl,hg2⟩;have HG2:=hid hg2;clear hg2)
  go_ret
  exact ⟨_,rfl,HG2.out.size,grown_alloc HG2.out _,HN.out _ HG2.out⟩
 |ok m =>
  rw[hlev] at hC
  unfold chkV at hC
  have HC:=hid hC
  have hall:=De.elems_all (De.seen_levels h8 hlev)
  have HA:=hid (fun W (hg:w.grownBy W none)=>(all_any A (.slice va l.length vc) l W (hB.grown hg) h0 (by omega) (hE.grown hg)).mono (fun e w' hp=>(show ∃ a n c,e=.returned (.tuple #[.slice a n c,.nilIface])∧FrE W w' (.slice a n c) (De.elems l) from by
   rw[hall] at hp
   obtain ⟨v,h1,h2⟩:=hp
   obtain ⟨a,c,rfl⟩:=h2.form
   exact ⟨a,_,c,h1,h2⟩)))
  have HN:=hid (fun w2 w3 a n c (hg:w.grownBy w2 none) (hf:FrE w2 w3 (.slice a n c) (De.elems l))=>PrR.new0 (A:=A) hb hg h8 hlev hf)
  generalize De.start l=s at *
  generalize De.elems l=es at *
  generalize l.length=n at *
  clear hB h0 hE h8 hC hlev hl hb hall
  go_enter Tryz.func34,Tryz.ntmps34
  go_wp2_with (first
   |(go_at_call 76;refine HC.out.mono ?_;rintro e w2 ⟨rfl,hg2⟩;have HG2:=hid hg2;clear hg2)
   |(go_at_call 77;refine (HA.out _ HG2.out).mono ?_;rintro e w3 ⟨a3,n3,c3,rfl,hf⟩;have HF:=hid hf;have HG3:=hid (grown_trans HG2.out hf.grown);clear hf))
  go_ret
  exact ⟨_,rfl,HG3.out.size,grown_alloc HG3.out _,HN.out _ _ _ _ _ HG2.out HF.out⟩
end Go.Proofs.YtjjbkpjjmbfdhaaGreatDoor
