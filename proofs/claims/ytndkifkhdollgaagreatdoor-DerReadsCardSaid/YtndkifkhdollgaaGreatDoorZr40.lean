import Derived.Test.YtndkifkhdollgaaGreatDoorZr18
import Derived.Test.YtndkifkhdollgaaGreatDoorZr21
import Derived.Test.YtndkifkhdollgaaGreatDoorZr24
import Derived.Test.YtndkifkhdollgaaGreatDoorZr36
import Derived.Test.YtndkifkhdollgaaGreatDoorZr39
import Derived.Deep.RegionHeld3
import Derived.BigQuiet
set_option linter.unusedVariables false
set_option linter.unusedSimpArgs false
set_option maxRecDepth 100000
set_option maxHeartbeats 2000000
namespace Go.Proofs.YtndkifkhdollgaaGreatDoor
open Lib (hid)
open Go.RowKit
theorem all_err:∀ (f:Nat) (b:List Nat) (k:Nat),De.all f b=.error k→k≠0
 |0,_,_,h=>absurd h (by simp[De.all])
 |f+1,b,k,h=>by
  rw[De.all] at h
  by_cases hb:b=[]
  ·rw[if_pos hb] at h;exact absurd h (by simp)
  rw[if_neg hb] at h
  cases hq:Tl.first b with
  |error e=>rw[hq] at h;obtain rfl:=Except.error.inj h;exact De.first_err hq
  |ok p =>
   obtain ⟨t,i,n⟩:=p
   rw[hq] at h
   have h:(match De.all f (b.drop (i+n)) with | .error e=>(Except.error e:Except Nat (List (Nat×List Nat))) | .ok r=>.ok ((t,(b.drop i).take n) :: r))=.error k:=h
   cases hr:De.all f (b.drop (i+n)) with
   |error e=>rw[hr] at h;obtain rfl:=Except.error.inj h;exact all_err f _ _ hr
   |ok r=>rw[hr] at h;exact absurd h (by simp)
theorem prEnter_any {A:Nat→Addr} {W0 w:World} {F:Nat→Prop} {b:Nat} {s:De.Rd} (h:PrR A W0 F b s w) (hE:AllErrs W0 A) (tag:Int) :
  Calls Tryz.prog 52 #[.pointer (some ⟨b,0,none⟩),.int .i64 tag] w fun e w'=>Upto F w w'∧PrR A W0 (Ext F w w') b (De.enter s tag).1 w'∧e=.returned (.bool (De.enter s tag).2):=by
 obtain ⟨W1,hW1⟩:∃ W1,W1=w.alloc (.cells #[.int .i64 tag] 3):=⟨_,rfl⟩
 have hga:w.grownBy W1 none:=by rw[hW1];exact World.grownBy_alloc _ _ _
 have ctb:W1.cell? ⟨w.heap.size,0,none⟩=some (.int .i64 tag):=by rw[hW1];exact cell_blk (alloc_at _ _) 0 rfl
 have hbl:=h.err_cell.2.2
 have hb1:b<W1.heap.size:=Nat.lt_of_lt_of_le hbl hga.size
 have hsane:De.Sane s:=fun he=>by obtain ⟨la,lc,oa,oc,h1,h2⟩:=h.at0 he;exact h2.sane he
 have hmf:=mkFn
 have HR:=hid (prRead_els (h.grow hga) hE tag 99 #[.pointer (some ⟨w.heap.size,0,none⟩)] (getE W1 b tag)
  (fun l k hk=>by
   unfold getE ofAll at hk
   split at hk
   ·cases hq:De.all l.length l with
    |error k2 =>
     rw[hq] at hk
     obtain rfl:=Except.error.inj hk
     exact all_err _ _ _ hq
    |ok ps=>rw[hq] at hk;exact absurd hk (by simp)
   ·obtain rfl:=Except.error.inj hk;decide)
  (fun l V hV w2 v x hg hv=>by
   unfold getE ofAll at hV
   split at hV
   ·cases hq:De.all l.length l with
    |error k2=>rw[hq] at hV;exact absurd hV (by simp)
    |ok ps =>
     rw[hq] at hV
     obtain rfl:=Except.ok.inj hV
     obtain ⟨v1,v2⟩:=hv
     refine ⟨?_,(World.cell?_setCell_other (w:=w2) _ _ _ (by simp)).trans v2⟩
     have hu:Upto (fun k=>k=b) w2 (w2.setCell ⟨b,0,none⟩ x):=⟨rfl,rfl,rfl,by rw[setCell_size];exact Nat.le_refl _,fun k hk hm=>Below.heap_setCell _ _ _ _ (fun e=>hm e)⟩
     refine (v1.upto hu (fun k hk e=>by omega)).mono (fun k hk=>by rw[setCell_size];exact hk) (fun k hk=>hk.2)
   ·exact absurd hV (by simp))
  (enters_any Tryz.func99 rfl rfl)
  (fun l a c h8 hl _ hB h0=>entClo_any A l a c w.heap.size tag W1 ctb h8 hl hB h0 (hE.grown (grown_join h.base hga)) b hb1))
 have HX0:=hid h
 have HG0:=hid hga
 rcases enter_cases hsane tag W1 b with ⟨s2,e1,e2,e3,e4⟩|⟨s2,body,e1,e2,e3,e4,e5⟩
 ·rw[e1] at HR
  rw[e3]
  have HK:Hid (∀ w3,Upto (Ext F w W1) W1 w3→PrR A W0 (Ext (Ext F w W1) W1 w3) b s2 w3→w3.cell? ⟨b,2,none⟩=some (errV A s2.e)∧Upto F w w3∧PrR A W0 (Ext F w w3) b (De.enter s tag).1 w3):=hid (fun w3 k1 k2=>by
   obtain ⟨d,_,_⟩:=k2.err_cell
   rw[errOf,if_neg e2] at d
   have:=HX0.out.join2 ⟨Upto.of_grown F HG0.out,HX0.out.grow HG0.out⟩ ⟨k1,k2.err_any e2 e4⟩
   exact ⟨d,this.1,this.2⟩)
  have HW1:Hid (w.alloc (.cells #[.int .i64 tag] 3)=W1):=hid hW1.symm
  generalize (De.enter s tag).1=s9 at *
  clear h hE hsane e1 e2 e3 e4 hW1 HG0 HX0
  go_enter Tryz.func52,Tryz.ntmps52
  go_wp2_with (go_at_call 98;rw[HW1.out];refine HR.out.mono ?_;rintro e w3 ⟨k1,k2,rfl⟩;obtain ⟨d,k3,k4⟩:=HK.out w3 k1 k2;have K3:=hid k3;have K4:=hid k4;clear k1 k2 k3 k4)
  go_ret
  exact ⟨K3.out,K4.out,rfl⟩
 ·rw[e1] at HR
  rw[e4]
  have HW1:Hid (w.alloc (.cells #[.int .i64 tag] 3)=W1):=hid hW1.symm
  by_cases he:s.e=0
  ·obtain ⟨la,lc,oa,oc,h1,h2⟩:=h.at0 he
   have c1w:w.cell? ⟨b,1,none⟩=some (.slice oa s.left.length oc):=cell_blk h1 1 rfl
   obtain ⟨ys0,hys0,_⟩:=h2.out
   have hovl:∀ k,(Value.slice oa s.left.length oc).ownBlock=some k→k<w.heap.size:=fun k hk=>(own_low hys0 hk).2
   have HK:Hid (∀ w3 v,Upto (Ext F w W1) W1 w3→PrR A W0 (Ext (Ext F w W1) W1 w3) b s2 w3→(Sup (fun k=>W1.heap.size≤k∧k<w3.heap.size) w3 (fun X=>ElsV X v (De.elems body))∧w3.cell? ⟨b,1,none⟩=W1.cell? ⟨b,1,none⟩) →
     ∃ la3 ln3 lc3 on3 va vn vc ys,v=.slice va vn vc∧w3.cell? ⟨b,0,none⟩=some (.slice la3 ln3 lc3)∧w3.cell? ⟨b,1,none⟩=some (.slice oa on3 oc)∧w3.cell? ⟨b,2,none⟩=some .nilIface∧w3.frozen? ⟨b,0,none⟩=false∧w3.frozen? ⟨b,1,none⟩=false∧b<w3.heap.size∧on3≤16∧w3.ownsRow 0 96 1 (.slice oa on3 oc) on3 ys ∧
      (∀ wq w5 ov',w3.grownBy wq none→w5.ownsRow 0 96 1 ov' (on3+1) (ys++[.slice la3 ln3 lc3])→wq.grownBy w5 (Value.slice oa on3 oc).ownBlock→(ov'.ownBlock=(Value.slice oa on3 oc).ownBlock∨ov'.ownBlock=some wq.heap.size) →
       w5.cell? ⟨b,1,none⟩=some (.slice oa on3 oc)∧w5.frozen? ⟨b,1,none⟩=false∧w5.cell? ⟨b,0,none⟩=some (.slice la3 ln3 lc3)∧w5.frozen? ⟨b,0,none⟩=false ∧
       Upto F w ((w5.setCell ⟨b,1,none⟩ ov').setCell ⟨b,0,none⟩ (.slice va vn vc))∧PrR A W0 (Ext F w ((w5.setCell ⟨b,1,none⟩ ov').setCell ⟨b,0,none⟩ (.slice va vn vc))) b { s2 with top:=body,left:=s2.top :: s2.left } ((w5.setCell ⟨b,1,none⟩ ov').setCell ⟨b,0,none⟩ (.slice va vn vc)))):=hid (fun w3 v k1 k2 ⟨k3,k4⟩=>by
    obtain ⟨la3,lc3,oa3,oc3,q1,q2⟩:=k2.at0 e2
    have d0:w3.cell? ⟨b,0,none⟩=some (.slice la3 (De.elems s2.top).length lc3):=cell_blk q1 0 rfl
    have d1:w3.cell? ⟨b,1,none⟩=some (.slice oa3 s2.left.length oc3):=cell_blk q1 1 rfl
    have d1':w3.cell? ⟨b,1,none⟩=some (.slice oa s.left.length oc):=k4.trans ((World.cell?_of_block (HG0.out.block b hbl (by simp))).trans c1w)
    rw[d1] at d1'
    simp only[Option.some.injEq,Value.slice.injEq] at d1'
    obtain ⟨rfl,hln,rfl⟩:=d1'
    obtain ⟨va,vg,vo,vc,hv,_⟩:=k3.now
    obtain ⟨ys,r1,r2⟩:=q2.out
    obtain ⟨kk,hkk,_⟩:=q2.sane e2
    have hb3:=blk_lt q1
    refine ⟨la3,_,lc3,s2.left.length,va,_,vc,ys,hv,d0,d1,cell_blk q1 2 rfl,free_blk q1 0,free_blk q1 1,hb3,by omega,r1,fun wq w5 ov' g1 g2 g3 g4=>?_⟩
    have hb5:w5.heap[b]?=w3.heap[b]?:=(g3.block b (by have:=g1.size;omega) (fun e=>q2.rov e.symm)).trans (g1.block b hb3 (by simp))
    refine ⟨(World.cell?_of_block hb5).trans d1,(World.frozen?_of_block hb5).trans (free_blk q1 1),(World.cell?_of_block hb5).trans d0,(World.frozen?_of_block hb5).trans (free_blk q1 0),?_⟩
    have hvI:Sup (ImM W0 (Ext (Ext F w W1) W1 w3) (MutR b (.slice oa3 s2.left.length oc3))) w3 (fun X=>ElsV X v (De.elems body)):=by
     refine k3.mono (fun k hk=>⟨.inl (.inr hk),fun hm=>?_⟩) (fun k hk=>?_)
     ·have h1s:=HG0.out.size
      rcases hm with hm|hm
      ·omega
      ·have:=hovl k (by rw[←hln];exact hm);omega
     ·rcases hk.1 with hk|hk
      ·exact (k2.own k hk).2
      ·exact Nat.lt_of_lt_of_le hk k2.base.size
    have T:=k2.enters q1 e2 q2 e5 hvI r2 (by have:=r1.1;omega) g1 g2 g3 g4
    rw[hv] at T
    have J1:=HX0.out.join2 ⟨Upto.of_grown F HG0.out,HX0.out.grow HG0.out⟩ ⟨k1,k2⟩
    have hs1:=HG0.out.size
    have hs3:=k1.size
    have T2:=(PrR.iff T.2 (G:=Ext (Ext F w w3) w3 ((w5.setCell ⟨b,1,none⟩ ov').setCell ⟨b,0,none⟩ (.slice va (De.elems body).length vc))) (fun k=>?_))
    ·exact HX0.out.join2 J1 ⟨T.1.mono (fun k hk hf=>hf.elim (fun hf=>hf.elim .inl (fun hf=>.inr ⟨hf.1,by omega⟩)) (fun hf=>.inr ⟨by omega,hf.2⟩)),T2⟩
    ·have:=T.1.size
     constructor
     ·rintro ((hk|hk)|hk)
      ·exact .inl (.inl (.inl hk))
      ·by_cases hk1:k<W1.heap.size
       ·exact .inl (.inl (.inr ⟨hk.1,hk1⟩))
       ·exact .inl (.inr ⟨by omega,hk.2⟩)
      ·exact .inr hk
     ·rintro (((hk|hk)|hk)|hk)
      ·exact .inl (.inl hk)
      ·exact .inl (.inr ⟨hk.1,by omega⟩)
      ·exact .inl (.inr ⟨by omega,hk.2⟩)
      ·exact .inr hk)
   have HI:=hid iLE
   generalize ({ s2 with top:=body,left:=s2.top :: s2.left }:De.Rd)=s9 at *
   clear h hE hsane e1 e2 e3 e4 e5 hW1 HG0 HX0 h1 h2 c1w hys0 hovl he hbl hb1 ctb hga
   go_enter Tryz.func52,Tryz.ntmps52
   go_wp2_with (go_at_call 98;rw[HW1.out];refine HR.out.mono ?_;rintro e w3 ⟨k1,k2,v,rfl,hv⟩;obtain ⟨la3,ln3,lc3,on3,va,vn,vc,ys,rfl,d0,d1,d2,f0,f1,hb3,hn,hrow,HGx⟩:=HK.out w3 v k1 k2 hv;have HG:=hid HGx;have HO:=hid hrow;clear k1 k2 hv HGx hrow)
   have gd:w3.grownBy w3.drew none:=grown_drewN (grown_refl _ _) 1
   have GD:=hid gd
   have gda:w3.grownBy (w3.alloc (.cells #[.slice la3 ln3 lc3] 96)).drew none:=grown_drewN (grown_alloc (grown_refl _ _) _) 1
   have GDA:=hid gda
   have KS:Hid (∀ w',w3.grownBy w' none→w'.cell? ⟨b,0,none⟩=some (.slice la3 ln3 lc3)):=hid (fun w' hg'=>(World.cell?_of_block (hg'.block b hb3 (by simp))).trans d0)
   have e1:(w3.alloc (.cells #[.slice la3 ln3 lc3] 96)).cell? ⟨b,1,none⟩=some (.slice oa on3 oc):=(World.cell?_of_block (alloc_old _ _ _ hb3)).trans d1
   have HOA:=hid (HO.out.kept gda (Classical.em _))
   have HN:Hid (∀ j u,([.slice la3 ln3 lc3]:List Value)[j]?=some u→(w3.alloc (.cells #[.slice la3 ln3 lc3] 96)).drew.cell? ((⟨w3.heap.size,0,none⟩:Addr).add j)=some u):=hid (by intro j u hj;rw[addr_addO,Nat.zero_add];exact cell_blk (alloc_at w3 _) j (by simpa using hj))
   clear gd gda d0 HK HR
   refine wp_region_held_drew (S:=(fun w'=>w'.cell? ⟨b,0,none⟩=some (.slice la3 ln3 lc3))) (by kernel_rfl) (by first|(dsimp only;(first|exact KS.out _ GD.out|exact KS.out _ GDA.out|exact K10.out|exact (World.cell?_setCell_other (w:=w10) _ _ _ (by simp)).trans K10.out))|(first|exact KS.out _ GD.out|exact KS.out _ GDA.out|exact K10.out|exact (World.cell?_setCell_other (w:=w10) _ _ _ (by simp)).trans K10.out)) (fun hHeld=>?_)
   refine wpAnyH_take (i:=0) (oi:=({ dst:=_,op:=_,type:=_,pos:=_,after:=_,guard:=_ }:Oper)) (v:=?_) rfl (by kernel_rfl) (by kernel_rfl) (by kernel_rfl) (fun _ _ _ h=>h) (Or.inl ⟨by rfl,?_⟩) (by assumption) ?_
   rotate_left
   focus (intro w hSw;(try dsimp only at hSw);go_simp;try with_reducible rfl)
   try simp only[Act.put,List.setIfInBounds_toArray,List.set_cons_zero,List.set_cons_succ]
   refine wpAnyH_take (i:=1) (oi:=({ dst:=_,op:=_,type:=_,pos:=_,after:=_,guard:=_ }:Oper)) (v:=?_) rfl (by kernel_rfl) (by kernel_rfl) (by kernel_rfl) (fun _ _ _ h=>h) (Or.inl ⟨by rfl,?_⟩) (by assumption) ?_
   rotate_left
   focus (intro w hSw;(try dsimp only at hSw);go_simp;try with_reducible rfl)
   try simp only[Act.put,List.setIfInBounds_toArray,List.set_cons_zero,List.set_cons_succ]
   refine wpAnyH_take (i:=2) (oi:=({ dst:=_,op:=_,type:=_,pos:=_,after:=_,guard:=_ }:Oper)) (v:=?_) rfl (by kernel_rfl) (by kernel_rfl) (by kernel_rfl) (fun _ _ _ h=>h) (Or.inl ⟨by rfl,?_⟩) (by assumption) ?_
   rotate_left
   focus (intro w hSw;(try dsimp only at hSw);go_simp;try with_reducible rfl)
   try simp only[Act.put,List.setIfInBounds_toArray,List.set_cons_zero,List.set_cons_succ]
   refine wpAnyH_take (i:=3) (oi:=({ dst:=_,op:=_,type:=_,pos:=_,after:=_,guard:=_ }:Oper)) (v:=?_) rfl (by kernel_rfl) (by kernel_rfl) (by kernel_rfl) (fun _ _ _ h=>h) (Or.inl ⟨by rfl,?_⟩) (by assumption) ?_
   rotate_left
   focus (intro w hSw;(try dsimp only at hSw);go_simp;try with_reducible rfl)
   try simp only[Act.put,List.setIfInBounds_toArray,List.set_cons_zero,List.set_cons_succ]
   refine wpAnyH_take (i:=5) (oi:=({ dst:=_,op:=_,type:=_,pos:=_,after:=_,guard:=_ }:Oper)) (v:=?_) rfl (by kernel_rfl) (by kernel_rfl) (by kernel_rfl) (fun _ _ _ h=>h) (Or.inl ⟨by rfl,?_⟩) (by assumption) ?_
   rotate_left
   focus (intro w hSw;(try dsimp only at hSw);go_simp;try with_reducible rfl)
   try simp only[Act.put,List.setIfInBounds_toArray,List.set_cons_zero,List.set_cons_succ]
   refine wpAnyH_take (i:=6) (oi:=({ dst:=_,op:=_,type:=_,pos:=_,after:=_,guard:=_ }:Oper)) (v:=?_) rfl (by kernel_rfl) (by kernel_rfl) (by kernel_rfl) (fun _ _ _ h=>h) (Or.inl ⟨by rfl,?_⟩) (by assumption) ?_
   rotate_left
   focus (intro w hSw;(try dsimp only at hSw);go_simp;try with_reducible rfl)
   try simp only[Act.put,List.setIfInBounds_toArray,List.set_cons_zero,List.set_cons_succ]
   refine wpAnyH_take (i:=7) (oi:=({ dst:=_,op:=_,type:=_,pos:=_,after:=_,guard:=_ }:Oper)) (v:=?_) rfl (by kernel_rfl) (by kernel_rfl) (by kernel_rfl) (fun _ _ _ h=>h) (Or.inl ⟨by rfl,?_⟩) (by assumption) ?_
   rotate_left
   focus (intro w hSw;(try dsimp only at hSw);go_simp;try with_reducible rfl)
   try simp only[Act.put,List.setIfInBounds_toArray,List.set_cons_zero,List.set_cons_succ]
   refine wpAnyH_take (i:=8) (oi:=({ dst:=_,op:=_,type:=_,pos:=_,after:=_,guard:=_ }:Oper)) (v:=?_) rfl (by kernel_rfl) (by kernel_rfl) (by kernel_rfl) (fun _ _ _ h=>h) (Or.inl ⟨by rfl,?_⟩) (by assumption) ?_
   rotate_left
   focus (intro w hSw;(try dsimp only at hSw);go_simp;try with_reducible rfl)
   try simp only[Act.put,List.setIfInBounds_toArray,List.set_cons_zero,List.set_cons_succ]
   repeat' first
    |(refine wpAnyH_done (by decide +kernel) ?_ _)
    |(refine wpAnyH_ready (rs:=[4,9]) (by decide +kernel) (by simp) ?_)
    |(refine wpAnyH_ready (rs:=[4]) (by decide +kernel) (by simp) ?_)
    |(refine wpAnyH_ready (rs:=[10]) (by decide +kernel) (by simp) ?_)
    |(refine wpAnyH_ready (rs:=[13]) (by decide +kernel) (by simp) ?_)
    |(refine wpAnyH_ready (rs:=[9]) (by decide +kernel) (by simp) ?_)
    |exact AllReadyH.nil
    |(refine AllReadyH.cons (o:=({ dst:=_,op:=_,type:=_,pos:=_,after:=_,guard:=_ }:Oper)) rfl (fun Kq hKq=>?_) ?_;(focus ((first|((refine step_appN2 (by rfl) (.tmp 19) (.tmp 24) 97 (by rfl) 0 96 (.slice none 0 0) 1 24 Tryz.underlying97 HI.out rfl (by decide) (by decide) _ on3 ys (by rfl) HOA.out ⟨w3.heap.size,0,none⟩ 1 _ [.slice la3 ln3 lc3] (by rfl) rfl HN.out (by intro u hu;simp at hu;rw[hu];rfl) (by omega) (Nat.zero_le _) ?_;intro v' w10 ho10 hg10 hv10;obtain ⟨va',vg',vc',hv',q1,q2,q3,q4,q5⟩:=own_formN ho10;subst hv';clear q1 q2 q3 q4 q5;obtain ⟨dd1,ff1,dd0,ff0,kk1,kk2⟩:=HG.out _ _ _ GDA.out ho10 hg10 hv10;have K10:=hid dd0;have FF0:=hid ff0;have KK1:=hid kk1;have KK2:=hid kk2;clear ho10 hg10 hv10 kk1 kk2 dd0 ff0))|go_simp);(refine hKq.out _ _ (by first|(dsimp only;(first|exact KS.out _ GD.out|exact KS.out _ GDA.out|exact K10.out|exact (World.cell?_setCell_other (w:=w10) _ _ _ (by simp)).trans K10.out))|(first|exact KS.out _ GD.out|exact KS.out _ GDA.out|exact K10.out|exact (World.cell?_setCell_other (w:=w10) _ _ _ (by simp)).trans K10.out)) (fun hHeld=>?_));(clear hKq Kq);(try simp only[Act.put,List.setIfInBounds_toArray,List.set_cons_zero,List.set_cons_succ]))))
    |(refine wpAnyH_take (i:=11) (oi:=({ dst:=_,op:=_,type:=_,pos:=_,after:=_,guard:=_ }:Oper)) (v:=?_) rfl (by kernel_rfl) (by kernel_rfl) (by decide +kernel) (fun _ _ _ h=>h) (Or.inl ⟨by rfl,?_⟩) (by assumption) ?_;rotate_left;focus (intro w hSw;(try dsimp only at hSw);go_simp;try with_reducible rfl);try simp only[Act.put,List.setIfInBounds_toArray,List.set_cons_zero,List.set_cons_succ])
    |(refine wpAnyH_take (i:=12) (oi:=({ dst:=_,op:=_,type:=_,pos:=_,after:=_,guard:=_ }:Oper)) (v:=?_) rfl (by kernel_rfl) (by kernel_rfl) (by decide +kernel) (fun _ _ _ h=>h) (Or.inl ⟨by rfl,?_⟩) (by assumption) ?_;rotate_left;focus (intro w hSw;(try dsimp only at hSw);go_simp;try with_reducible rfl);try simp only[Act.put,List.setIfInBounds_toArray,List.set_cons_zero,List.set_cons_succ])
   all_goals
    have ff0:=FF0.out
    have dd0:=K10.out
    show Exit.then _ _ _ _ _
    go_wp2
    go_ret
    exact ⟨KK1.out,KK2.out,rfl⟩
  ·exfalso
   unfold readP nextP at e1
   rw[if_pos (by simp[he])] at e1
   exact absurd (congrArg Prod.snd e1) (by simp)
def numR (least most:Int) (l:List Nat):Except Nat (World→Value→Prop):=if (rangeOf l least most).2=0 then .ok (fun _ v=>v=.int .i64 (rangeOf l least most).1) else .error (rangeOf l least most).2
section
variable {A:Nat→Addr} {W0 w w2:World} {F:Nat→Prop} {b:Nat} {s:De.Rd}
theorem PrR.afterO {w':World} {Z:Value} {p:De.Rd×Option (World→Value→Prop)} {e:Ending} (h:PrR A W0 F b s w) (hg:w.grownBy w2 none) (hp:PrROut A W0 (Ext F w w2) b w2 w' Z p e):PrROut A W0 F b w w' Z p e:=by
 obtain ⟨h1,h2,h3⟩:=hp
 have:=h.join2 ⟨Upto.of_grown F hg,h.grow hg⟩ ⟨h1,h2⟩
 exact ⟨this.1,this.2,h3⟩
theorem prROut_val {w':World} {Z:Value} {p:De.Rd×Option (World→Value→Prop)} {e:Ending} (h:PrROut A W0 F b w w' Z p e):∃ v,e=.returned v∧PrROut A W0 F b w w' Z p (.returned v):=by
 obtain ⟨k1,k2,k3⟩:=h
 obtain ⟨p1,p2⟩:=p
 cases p2 with
 |none=>exact ⟨_,k3,k1,k2,rfl⟩
 |some V =>
  obtain ⟨v,k4,k5⟩:=k3
  exact ⟨v,k4,k1,k2,v,rfl,k5⟩
end
theorem numClo_any (A:Nat→Addr) (l:List Nat) (a:Option Addr) (c x1 x2:Nat) (least most:Int) (w:World) (h1:w.cell? ⟨x1,0,none⟩=some (.int .i64 least)) (h2:w.cell? ⟨x2,0,none⟩=some (.int .i64 most)) (hB:Bytes w (.slice a l.length c) l) (hE:AllErrs w A) :
  Calls Tryz.prog 150 #[.slice a l.length c,.pointer (some ⟨x1,0,none⟩),.pointer (some ⟨x2,0,none⟩)] w fun e w'=>GetPost A w w' (numR least most l) e:=by
 have HR:=hid (range_any A (.slice a l.length c) l least most w hB hE)
 unfold numR
 obtain ⟨n,k,hnk⟩:∃ n k,rangeOf l least most=(n,k):=⟨_,_,rfl⟩
 rw[hnk] at HR ⊢
 simp only at HR ⊢
 obtain ⟨m,hm⟩:∃ m,m=l.length:=⟨_,rfl⟩
 by_cases hk:k=0
 ·rw[if_pos hk]
  rw[errOf,if_pos hk] at HR
  clear hB hE hnk hk
  go_enter Tryz.func150,Tryz.ntmps150
  go_wp2_with (go_at_call 151;refine HR.out.mono ?_;rintro e w2 ⟨rfl,hg2⟩;have HG2:=hid hg2;clear hg2)
  go_returns
  exact ⟨HG2.out,_,rfl,rfl⟩
 ·rw[if_neg hk]
  rw[errOf,if_neg hk] at HR
  clear hB hE hnk hk
  go_enter Tryz.func150,Tryz.ntmps150
  go_wp2_with (go_at_call 151;refine HR.out.mono ?_;rintro e w2 ⟨rfl,hg2⟩;have HG2:=hid hg2;clear hg2)
  go_returns
  exact ⟨HG2.out,_,rfl⟩
theorem rrNumber_any {A:Nat→Addr} {W0 w:World} {F:Nat→Prop} {b:Nat} {s:De.Rd} (h:PrR A W0 F b s w) (hE:AllErrs W0 A) (tag least most:Int) :
  Calls Tryz.prog 102 #[.pointer (some ⟨b,0,none⟩),.int .i64 tag,.int .i64 least,.int .i64 most] w fun e w'=>PrROut A W0 F b w w' (.int .i64 0) (readP s tag (numR least most)) e:=by
 obtain ⟨W1,hW1⟩:∃ W1,W1=(w.alloc (.cells #[.int .i64 least] 3)).alloc (.cells #[.int .i64 most] 3):=⟨_,rfl⟩
 have hga:w.grownBy W1 none:=by rw[hW1];exact grown_alloc (grown_alloc (grown_refl _ _) _) _
 have cx1:W1.cell? ⟨w.heap.size,0,none⟩=some (.int .i64 least):=by rw[hW1];exact cell_blk (alloc_keep (alloc_at _ _)) 0 rfl
 have cx2:W1.cell? ⟨w.heap.size+1,0,none⟩=some (.int .i64 most):=by
  rw[hW1]
  have:=alloc_at (w.alloc (.cells #[.int .i64 least] 3)) (.cells #[.int .i64 most] 3)
  rw[alloc_size] at this
  exact cell_blk this 0 rfl
 have hmf:=mkFn
 have HR:=hid ((prRead_int (h.grow hga) hE tag 150 #[.pointer (some ⟨w.heap.size,0,none⟩),.pointer (some ⟨w.heap.size+1,0,none⟩)] (numR least most)
  (fun l k hk=>by
   unfold numR at hk
   split at hk
   ·exact absurd hk (by simp)
   ·rename_i hne
    obtain rfl:=Except.error.inj hk;exact hne)
  (fun l V hV w2 v x hg hv=>by
   unfold numR at hV
   split at hV
   ·obtain rfl:=Except.ok.inj hV;exact hv
   ·exact absurd hV (by simp))
  (enters_any Tryz.func150 rfl rfl)
  (fun l a c h8 hl _ hB h0=>numClo_any A l a c _ _ least most W1 cx1 cx2 hB (hE.grown (grown_join h.base hga)))).mono (fun e w' hp=>h.afterO hga hp))
 have HW1:Hid ((w.alloc (.cells #[.int .i64 least] 3)).alloc (.cells #[.int .i64 most] 3)=W1):=hid hW1.symm
 generalize readP s tag (numR least most)=p at *
 clear h hE hW1 hga cx1 cx2
 go_enter Tryz.func102,Tryz.ntmps102
 go_wp2_with (go_at_call 119;rw[HW1.out];refine HR.out.mono ?_;rintro e w3 hp3;obtain ⟨v,hv,hq⟩:=prROut_val hp3;subst hv;have HQ:=hid hq;clear hp3 hq)
 go_ret
 exact HQ.out
theorem rrInt_any {A:Nat→Addr} {W0 w:World} {F:Nat→Prop} {b:Nat} {s:De.Rd} (h:PrR A W0 F b s w) (hE:AllErrs W0 A) (least most:Int) :
  Calls Tryz.prog 54 #[.pointer (some ⟨b,0,none⟩),.int .i64 least,.int .i64 most] w fun e w'=>∃ v,e=.returned v∧PrROut A W0 F b w w' (.int .i64 0) (readP s 2 (numR least most)) e:=by
 have HN:=hid (rrNumber_any h hE 2 least most)
 generalize readP s 2 (numR least most)=p at *
 clear h hE
 go_enter Tryz.func54,Tryz.ntmps54
 go_wp2_with (go_at_call 102;refine HN.out.mono ?_;rintro e w3 hp3;obtain ⟨v,hv,hq⟩:=prROut_val hp3;subst hv;have HQ:=hid hq;clear hp3 hq)
 go_ret
 exact ⟨_,rfl,HQ.out⟩
def octR (w:World) (least most:Int) (l:List Nat):Except Nat (World→Value→Prop):=if (l.length:Int)<least then .error 2 else if most<(l.length:Int) then .error 3 else .ok (fun W v=>Sup (fun k=>w.heap.size≤k∧k<W.heap.size) W (fun X=>Bytes X v l∧Whole0 v))
theorem octClo_any (A:Nat→Addr) (l:List Nat) (a:Option Addr) (c x1 x2:Nat) (least most:Int) (w:World) (h1:w.cell? ⟨x1,0,none⟩=some (.int .i64 least)) (h2:w.cell? ⟨x2,0,none⟩=some (.int .i64 most)) (h8:∀ x∈l,x<256) (hl:l.length≤65530) (hB:Bytes w (.slice a l.length c) l) (h0:Whole0 (.slice a l.length c)) (hE:AllErrs w A) :
  Calls Tryz.prog 114 #[.slice a l.length c,.pointer (some ⟨x1,0,none⟩),.pointer (some ⟨x2,0,none⟩)] w fun e w'=>GetPost A w w' (octR w least most l) e:=by
 have HED:Hid (w.cell? ⟨1,0,none⟩=some (errV A 2)∧w.cell? ⟨2,0,none⟩=some (errV A 3)):=hid (by
  have e5:=errs_at hE 2 (by decide)
  have e6:=errs_at hE 3 (by decide)
  simp only[errVars,List.getD_cons_zero,List.getD_cons_succ,Nat.add_one_sub_one] at e5 e6
  exact ⟨e5,e6⟩)
 have HC:=hid ((clone_any (.slice a l.length c) l w hB h0 (by omega)).mono (fun e w' hp=>(show ∃ ua un uc,e=.returned (.slice ua un uc)∧w.grownBy w' none∧Sup (fun k=>w.heap.size≤k∧k<w'.heap.size) w' (fun X=>Bytes X (.slice ua un uc) l∧Whole0 (.slice ua un uc)) from by
  obtain ⟨u,h3,h4,ua,uc,rfl⟩:=hp
  exact ⟨ua,_,uc,h3,h4.grown,h4.sup h8⟩)))
 unfold octR
 obtain ⟨e2,e3⟩:=HED.out
 by_cases hs:(l.length:Int)<least
 ·rw[if_pos hs]
  generalize l.length=n at *
  clear hB h0 hE HC
  go_enter Tryz.func114,Tryz.ntmps114
  go_wp2
  go_quiet (fail)
  go_wp2
  go_returns
  exact ⟨grown_drewN (grown_refl _ _) _,_,rfl⟩
 ·rw[if_neg hs]
  by_cases hm:most<(l.length:Int)
  ·rw[if_pos hm]
   generalize l.length=n at *
   clear hB h0 hE HC
   go_enter Tryz.func114,Tryz.ntmps114
   go_wp2
   go_quiet (fail)
   go_wp2
   go_returns
   exact ⟨grown_drewN (grown_refl _ _) _,_,rfl⟩
  ·rw[if_neg hm]
   generalize l.length=n at *
   clear hB h0 hE e2 e3
   go_enter Tryz.func114,Tryz.ntmps114
   go_wp2_with (go_at_call 71;refine HC.out.mono ?_;rintro e w2 ⟨ua,un,uc,rfl,hg2,hs2⟩;have HG2:=hid hg2;have HS2:=hid hs2;clear hg2 hs2)
   go_returns
   exact ⟨HG2.out,_,rfl,HS2.out⟩
theorem calget_err {l:List Nat} {k:Nat} (h:Cal.get l=.error k):k≠0:=by
 unfold Cal.get at h
 repeat' split at h
 all_goals first
  |(have h2:=Except.error.inj h;omega)
  |exact absurd h (by simp)
theorem mask_err {l:List Nat} {k:Nat} (h:Pt.mask l=.error k):k≠0:=by
 unfold Pt.mask at h
 repeat' split at h
 all_goals first
  |(have h2:=Except.error.inj h;omega)
  |exact absurd h (by simp)
def momentR (l:List Nat):Except Nat (World→Value→Prop):=match Cal.get l with
 |.ok n=>.ok (fun _ v=>v=.int .i64 (n:Int))
 |.error k=>.error k
theorem rrMoment_any {A:Nat→Addr} {W0 w:World} {F:Nat→Prop} {b:Nat} {s:De.Rd} (h:PrR A W0 F b s w) (hE:AllErrs W0 A) (hS:MoGet A W0) (hnx:∀ l,Top1 s l→l.length≤1000) :
  Calls Tryz.prog 66 #[.pointer (some ⟨b,0,none⟩)] w fun e w'=>∃ v,e=.returned v∧PrROut A W0 F b w w' (.int .i64 0) (readP s 24 momentR) e:=by
 have HN:=hid (prRead_int h hE 24 120 #[] momentR
  (fun l k hk=>by
   unfold momentR at hk
   split at hk
   ·exact absurd hk (by simp)
   ·rename_i k2 hq
    obtain rfl:=Except.error.inj hk;exact calget_err hq)
  (fun l V hV w2 v x hg hv=>by
   unfold momentR at hV
   split at hV
   ·obtain rfl:=Except.ok.inj hV;exact hv
   ·exact absurd hV (by simp))
  (enters_any Tryz.func120 rfl rfl)
  (fun l a c h8 _ hlt hB h0=>(hS _ l w h.base hB (hnx l hlt.2)).mono (fun e w' hp=>by
   obtain ⟨hg,rfl⟩:=hp
   unfold momentR
   cases hq:Cal.get l with
   |ok n=>exact ⟨hg,_,rfl,rfl⟩
   |error k=>exact ⟨hg,_,rfl⟩)))
 generalize readP s 24 momentR=p at *
 clear h hE hS
 go_enter Tryz.func66,Tryz.ntmps66
 go_wp2_with (go_at_call 119;refine HN.out.mono ?_;rintro e w3 hp3;obtain ⟨v,hv,hq⟩:=prROut_val hp3;subst hv;have HQ:=hid hq;clear hp3 hq)
 go_ret
 exact ⟨_,rfl,HQ.out⟩
def flagsR (l:List Nat):Except Nat (World→Value→Prop):=match Pt.mask l with
 |.ok n=>.ok (fun _ v=>v=.int .i64 (n:Int))
 |.error k=>.error k
theorem rrFlags_any {A:Nat→Addr} {W0 w:World} {F:Nat→Prop} {b:Nat} {s:De.Rd} (h:PrR A W0 F b s w) (hE:AllErrs W0 A) (hS:TxMask A W0) (hnx:∀ l,Top1 s l→l.length≤1000) :
  Calls Tryz.prog 68 #[.pointer (some ⟨b,0,none⟩)] w fun e w'=>∃ v,e=.returned v∧PrROut A W0 F b w w' (.int .i64 0) (readP s 3 flagsR) e:=by
 have HN:=hid (prRead_int h hE 3 123 #[] flagsR
  (fun l k hk=>by
   unfold flagsR at hk
   split at hk
   ·exact absurd hk (by simp)
   ·rename_i k2 hq
    obtain rfl:=Except.error.inj hk;exact mask_err hq)
  (fun l V hV w2 v x hg hv=>by
   unfold flagsR at hV
   split at hV
   ·obtain rfl:=Except.ok.inj hV;exact hv
   ·exact absurd hV (by simp))
  (enters_any Tryz.func123 rfl rfl)
  (fun l a c h8 _ hlt hB h0=>(hS _ l w h.base hB (hnx l hlt.2)).mono (fun e w' hp=>by
   obtain ⟨hg,rfl⟩:=hp
   unfold flagsR
   cases hq:Pt.mask l with
   |ok n=>exact ⟨hg,_,rfl,rfl⟩
   |error k=>exact ⟨hg,_,rfl⟩)))
 generalize readP s 3 flagsR=p at *
 clear h hE hS
 go_enter Tryz.func68,Tryz.ntmps68
 go_wp2_with (go_at_call 119;refine HN.out.mono ?_;rintro e w3 hp3;obtain ⟨v,hv,hq⟩:=prROut_val hp3;subst hv;have HQ:=hid hq;clear hp3 hq)
 go_ret
 exact ⟨_,rfl,HQ.out⟩
theorem rrEnum_any {A:Nat→Addr} {W0 w:World} {F:Nat→Prop} {b:Nat} {s:De.Rd} (h:PrR A W0 F b s w) (hE:AllErrs W0 A) (least most:Int) :
  Calls Tryz.prog 61 #[.pointer (some ⟨b,0,none⟩),.int .i64 least,.int .i64 most] w fun e w'=>∃ v,e=.returned v∧PrROut A W0 F b w w' (.int .i64 0) (readP s 10 (numR least most)) e:=by
 have HN:=hid (rrNumber_any h hE 10 least most)
 generalize readP s 10 (numR least most)=p at *
 clear h hE
 go_enter Tryz.func61,Tryz.ntmps61
 go_wp2_with (go_at_call 102;refine HN.out.mono ?_;rintro e w3 hp3;obtain ⟨v,hv,hq⟩:=prROut_val hp3;subst hv;have HQ:=hid hq;clear hp3 hq)
 go_ret
 exact ⟨_,rfl,HQ.out⟩
def boolR (l:List Nat):Except Nat (World→Value→Prop):=if (isTrue l).2=0 then .ok (fun _ v=>v=.bool (isTrue l).1) else .error (isTrue l).2
theorem boolFn_any (A:Nat→Addr) (l:List Nat) (a:Option Addr) (c:Nat) (w:World) (hB:Bytes w (.slice a l.length c) l) (hE:AllErrs w A) :
  Calls Tryz.prog 112 #[.slice a l.length c] w fun e w'=>GetPost A w w' (boolR l) e:=(isTrue_any A _ l w hB hE).mono (fun e w' hp=>by
 obtain ⟨rfl,hg⟩:=hp
 unfold boolR
 by_cases hk:(isTrue l).2=0
 ·rw[if_pos hk,errOf,if_pos hk];exact ⟨hg,_,rfl,rfl⟩
 ·rw[if_neg hk,errOf,if_neg hk];exact ⟨hg,_,rfl⟩)
theorem rrBool_any {A:Nat→Addr} {W0 w:World} {F:Nat→Prop} {b:Nat} {s:De.Rd} (h:PrR A W0 F b s w) (hE:AllErrs W0 A) :
  Calls Tryz.prog 62 #[.pointer (some ⟨b,0,none⟩)] w fun e w'=>∃ v,e=.returned v∧PrROut A W0 F b w w' (.bool false) (readP s 1 boolR) e:=by
 have HN:=hid (prRead_bool h hE 1 112 #[] boolR
  (fun l k hk=>by
   unfold boolR at hk
   split at hk
   ·exact absurd hk (by simp)
   ·rename_i hne
    obtain rfl:=Except.error.inj hk;exact hne)
  (fun l V hV w2 v x hg hv=>by
   unfold boolR at hV
   split at hV
   ·obtain rfl:=Except.ok.inj hV;exact hv
   ·exact absurd hV (by simp))
  (enters_any Tryz.func112 rfl rfl)
  (fun l a c h8 hl _ hB h0=>boolFn_any A l a c w hB (hE.grown h.base)))
 generalize readP s 1 boolR=p at *
 clear h hE
 go_enter Tryz.func62,Tryz.ntmps62
 go_wp2_with (go_at_call 111;refine HN.out.mono ?_;rintro e w3 hp3;obtain ⟨v,hv,hq⟩:=prROut_val hp3;subst hv;have HQ:=hid hq;clear hp3 hq)
 go_ret
 exact ⟨_,rfl,HQ.out⟩
end Go.Proofs.YtndkifkhdollgaaGreatDoor
