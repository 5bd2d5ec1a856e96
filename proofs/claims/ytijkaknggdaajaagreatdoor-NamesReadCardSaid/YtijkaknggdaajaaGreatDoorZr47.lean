import Derived.Test.YtijkaknggdaajaaGreatDoorZr03
import Derived.Test.YtijkaknggdaajaaGreatDoorZr04
import Derived.Test.YtijkaknggdaajaaGreatDoorZr14
import Derived.Test.YtijkaknggdaajaaGreatDoorZr15
import Derived.Test.YtijkaknggdaajaaGreatDoorZr16
import Derived.Test.YtijkaknggdaajaaGreatDoorZr21
import Derived.Test.YtijkaknggdaajaaGreatDoorZr25
import Derived.Test.YtijkaknggdaajaaGreatDoorZr26
import Derived.Test.YtijkaknggdaajaaGreatDoorZr27
import Derived.Test.YtijkaknggdaajaaGreatDoorZr29
import Derived.Test.YtijkaknggdaajaaGreatDoorZr33
import Derived.Test.YtijkaknggdaajaaGreatDoorZr34
import Derived.Test.YtijkaknggdaajaaGreatDoorZr35
import Derived.Test.YtijkaknggdaajaaGreatDoorZr37
import Derived.Test.YtijkaknggdaajaaGreatDoorZr44
import Derived.Test.YtijkaknggdaajaaGreatDoorChecked
import Derived.WalkKit
import Derived.Shelf.Small.Bits
import Derived.Test.YtijkaknggdaajaaGreatDoorProg
import Derived.BigQuiet
import Derived.Deep.RegionHeld3
set_option linter.unusedVariables false
set_option linter.unusedSimpArgs false
set_option maxRecDepth 100000
set_option maxHeartbeats 2000000
namespace Go.Proofs.YtijkaknggdaajaaGreatDoor
open Lib (hid)
open Go.RowKit
theorem mkFn (fn:Fn) (first cap:Array Value) (w:World):(Instr.makeFunc fn first cap).run Tryz.prog w=.ok (.func fn first cap) w:=rfl
theorem enters_any {f:FuncId} {fn:Func} {c:Code} (hf:Tryz.prog.funcs[f]?=some fn) (hname:(fn.name == "runtime.NumGoroutine")=false) (hb:fn.body=some c):∀ args w,(callFunc f args).run Tryz.prog w=.ok (.enter f args) w:=enters_of hf hname hb
theorem all_err:∀ (f:Nat) (b:List Nat) (k:Nat),De.all f b=.error k→k≠0
 |0,_,_,h=>absurd h (by simp[De.all])
 |f+1,b,k,h=>by
  rw[De.all] at h
  by_cases hb:b=[]
  ·rw[if_pos hb] at h;exact absurd h (by simp)
  rw[if_neg hb] at h
  cases hq:Tl.first b with
  |error e=>rw[hq] at h;obtain rfl:=Except.error.inj h;exact De.first_err hq
  |ok p =>
   obtain ⟨t,i,n⟩:=p
   rw[hq] at h
   have h:(match De.all f (b.drop (i+n)) with | .error e=>(Except.error e:Except Nat (List (Nat×List Nat))) | .ok r=>.ok ((t,(b.drop i).take n) :: r))=.error k:=h
   cases hr:De.all f (b.drop (i+n)) with
   |error e=>rw[hr] at h;obtain rfl:=Except.error.inj h;exact all_err f _ _ hr
   |ok r=>rw[hr] at h;exact absurd h (by simp)
theorem prEnter_any {A:Nat→Addr} {W0 w:World} {F:Nat→Prop} {b:Nat} {s:De.Rd} (h:PrR A W0 F b s w) (hE:AllErrs W0 A) (tag:Int) :
  Calls Tryz.prog 34 #[.pointer (some ⟨b,0,none⟩),.int .i64 tag] w fun e w'=>Upto F w w'∧PrR A W0 (Ext F w w') b (De.enter s tag).1 w'∧e=.returned (.bool (De.enter s tag).2):=by
 obtain ⟨W1,hW1⟩:∃ W1,W1=w.alloc (.cells #[.int .i64 tag] 3):=⟨_,rfl⟩
 have hga:w.grownBy W1 none:=by rw[hW1];exact World.grownBy_alloc _ _ _
 have ctb:W1.cell? ⟨w.heap.size,0,none⟩=some (.int .i64 tag):=by rw[hW1];exact cell_blk (alloc_at _ _) 0 rfl
 have hbl:=h.err_cell.2.2
 have hb1:b<W1.heap.size:=Nat.lt_of_lt_of_le hbl hga.size
 have hsane:De.Sane s:=fun he=>by obtain ⟨la,lc,oa,oc,h1,h2⟩:=h.at0 he;exact h2.sane he
 have hmf:=mkFn
 have HR:=hid (prRead_els (h.grow hga) hE tag 75 #[.pointer (some ⟨w.heap.size,0,none⟩)] (getE W1 b tag)
  (fun l k hk=>by
   unfold getE ofAll at hk
   split at hk
   ·cases hq:De.all l.length l with
    |error k2 =>
     rw[hq] at hk
     obtain rfl:=Except.error.inj hk
     exact all_err _ _ _ hq
    |ok ps=>rw[hq] at hk;exact absurd hk (by simp)
   ·obtain rfl:=Except.error.inj hk;decide)
  (fun l V hV w2 v x hg hv=>by
   unfold getE ofAll at hV
   split at hV
   ·cases hq:De.all l.length l with
    |error k2=>rw[hq] at hV;exact absurd hV (by simp)
    |ok ps =>
     rw[hq] at hV
     obtain rfl:=Except.ok.inj hV
     obtain ⟨v1,v2⟩:=hv
     refine ⟨?_,(World.cell?_setCell_other (w:=w2) _ _ _ (by simp)).trans v2⟩
     have hu:Upto (fun k=>k=b) w2 (w2.setCell ⟨b,0,none⟩ x):=⟨rfl,rfl,rfl,by rw[setCell_size];exact Nat.le_refl _,fun k hk hm=>Below.heap_setCell _ _ _ _ (fun e=>hm e)⟩
     refine (v1.upto hu (fun k hk e=>by omega)).mono (fun k hk=>by rw[setCell_size];exact hk) (fun k hk=>hk.2)
   ·exact absurd hV (by simp))
  (enters_any Tryz.func75 rfl rfl)
  (fun l a c h8 hl _ hB h0=>entClo_any A l a c w.heap.size tag W1 ctb h8 hl hB h0 (hE.grown (grown_join h.base hga)) b hb1))
 have HX0:=hid h
 have HG0:=hid hga
 rcases enter_cases hsane tag W1 b with ⟨s2,e1,e2,e3,e4⟩|⟨s2,body,e1,e2,e3,e4,e5⟩
 ·rw[e1] at HR
  rw[e3]
  have HK:Hid (∀ w3,Upto (Ext F w W1) W1 w3→PrR A W0 (Ext (Ext F w W1) W1 w3) b s2 w3→w3.cell? ⟨b,2,none⟩=some (errV A s2.e)∧Upto F w w3∧PrR A W0 (Ext F w w3) b (De.enter s tag).1 w3):=hid (fun w3 k1 k2=>by
   obtain ⟨d,_,_⟩:=k2.err_cell
   rw[errOf,if_neg e2] at d
   have:=HX0.out.join2 ⟨Upto.of_grown F HG0.out,HX0.out.grow HG0.out⟩ ⟨k1,k2.err_any e2 e4⟩
   exact ⟨d,this.1,this.2⟩)
  have HW1:Hid (w.alloc (.cells #[.int .i64 tag] 3)=W1):=hid hW1.symm
  generalize (De.enter s tag).1=s9 at *
  clear h hE hsane e1 e2 e3 e4 hW1 HG0 HX0
  go_enter Tryz.func34,Tryz.ntmps34
  go_wp2_with (go_at_call 74;rw[HW1.out];refine HR.out.mono ?_;rintro e w3 ⟨k1,k2,rfl⟩;obtain ⟨d,k3,k4⟩:=HK.out w3 k1 k2;have K3:=hid k3;have K4:=hid k4;clear k1 k2 k3 k4)
  go_ret
  exact ⟨K3.out,K4.out,rfl⟩
 ·rw[e1] at HR
  rw[e4]
  have HW1:Hid (w.alloc (.cells #[.int .i64 tag] 3)=W1):=hid hW1.symm
  by_cases he:s.e=0
  ·obtain ⟨la,lc,oa,oc,h1,h2⟩:=h.at0 he
   have c1w:w.cell? ⟨b,1,none⟩=some (.slice oa s.left.length oc):=cell_blk h1 1 rfl
   obtain ⟨ys0,hys0,_⟩:=h2.out
   have hovl:∀ k,(Value.slice oa s.left.length oc).ownBlock=some k→k<w.heap.size:=fun k hk=>(own_low hys0 hk).2
   have HK:Hid (∀ w3 v,Upto (Ext F w W1) W1 w3→PrR A W0 (Ext (Ext F w W1) W1 w3) b s2 w3→(Sup (fun k=>W1.heap.size≤k∧k<w3.heap.size) w3 (fun X=>ElsV X v (De.elems body))∧w3.cell? ⟨b,1,none⟩=W1.cell? ⟨b,1,none⟩) →
     ∃ la3 ln3 lc3 on3 va vn vc ys,v=.slice va vn vc∧w3.cell? ⟨b,0,none⟩=some (.slice la3 ln3 lc3)∧w3.cell? ⟨b,1,none⟩=some (.slice oa on3 oc)∧w3.cell? ⟨b,2,none⟩=some .nilIface∧w3.frozen? ⟨b,0,none⟩=false∧w3.frozen? ⟨b,1,none⟩=false∧b<w3.heap.size∧on3≤16∧w3.ownsRow 0 123 1 (.slice oa on3 oc) on3 ys ∧
      (∀ wq w5 ov',w3.grownBy wq none→w5.ownsRow 0 123 1 ov' (on3+1) (ys++[.slice la3 ln3 lc3])→wq.grownBy w5 (Value.slice oa on3 oc).ownBlock→(ov'.ownBlock=(Value.slice oa on3 oc).ownBlock∨ov'.ownBlock=some wq.heap.size) →
       w5.cell? ⟨b,1,none⟩=some (.slice oa on3 oc)∧w5.frozen? ⟨b,1,none⟩=false∧w5.cell? ⟨b,0,none⟩=some (.slice la3 ln3 lc3)∧w5.frozen? ⟨b,0,none⟩=false ∧
       Upto F w ((w5.setCell ⟨b,1,none⟩ ov').setCell ⟨b,0,none⟩ (.slice va vn vc))∧PrR A W0 (Ext F w ((w5.setCell ⟨b,1,none⟩ ov').setCell ⟨b,0,none⟩ (.slice va vn vc))) b { s2 with top:=body,left:=s2.top :: s2.left } ((w5.setCell ⟨b,1,none⟩ ov').setCell ⟨b,0,none⟩ (.slice va vn vc)))):=hid (fun w3 v k1 k2 ⟨k3,k4⟩=>by
    obtain ⟨la3,lc3,oa3,oc3,q1,q2⟩:=k2.at0 e2
    have d0:w3.cell? ⟨b,0,none⟩=some (.slice la3 (De.elems s2.top).length lc3):=cell_blk q1 0 rfl
    have d1:w3.cell? ⟨b,1,none⟩=some (.slice oa3 s2.left.length oc3):=cell_blk q1 1 rfl
    have d1':w3.cell? ⟨b,1,none⟩=some (.slice oa s.left.length oc):=k4.trans ((World.cell?_of_block (HG0.out.block b hbl (by simp))).trans c1w)
    rw[d1] at d1'
    simp only[Option.some.injEq,Value.slice.injEq] at d1'
    obtain ⟨rfl,hln,rfl⟩:=d1'
    obtain ⟨va,vg,vo,vc,hv,_⟩:=k3.now
    obtain ⟨ys,r1,r2⟩:=q2.out
    obtain ⟨kk,hkk,_⟩:=q2.sane e2
    have hb3:=blk_lt q1
    refine ⟨la3,_,lc3,s2.left.length,va,_,vc,ys,hv,d0,d1,cell_blk q1 2 rfl,free_blk q1 0,free_blk q1 1,hb3,by omega,r1,fun wq w5 ov' g1 g2 g3 g4=>?_⟩
    have hb5:w5.heap[b]?=w3.heap[b]?:=(g3.block b (by have:=g1.size;omega) (fun e=>q2.rov e.symm)).trans (g1.block b hb3 (by simp))
    refine ⟨(World.cell?_of_block hb5).trans d1,(World.frozen?_of_block hb5).trans (free_blk q1 1),(World.cell?_of_block hb5).trans d0,(World.frozen?_of_block hb5).trans (free_blk q1 0),?_⟩
    have hvI:Sup (ImM W0 (Ext (Ext F w W1) W1 w3) (MutR b (.slice oa3 s2.left.length oc3))) w3 (fun X=>ElsV X v (De.elems body)):=by
     refine k3.mono (fun k hk=>⟨.inl (.inr hk),fun hm=>?_⟩) (fun k hk=>?_)
     ·have h1s:=HG0.out.size
      rcases hm with hm|hm
      ·omega
      ·have:=hovl k (by rw[←hln];exact hm);omega
     ·rcases hk.1 with hk|hk
      ·exact (k2.own k hk).2
      ·exact Nat.lt_of_lt_of_le hk k2.base.size
    have T:=k2.enters q1 e2 q2 e5 hvI r2 (by have:=r1.1;omega) g1 g2 g3 g4
    rw[hv] at T
    have J1:=HX0.out.join2 ⟨Upto.of_grown F HG0.out,HX0.out.grow HG0.out⟩ ⟨k1,k2⟩
    have hs1:=HG0.out.size
    have hs3:=k1.size
    have T2:=(PrR.iff T.2 (G:=Ext (Ext F w w3) w3 ((w5.setCell ⟨b,1,none⟩ ov').setCell ⟨b,0,none⟩ (.slice va (De.elems body).length vc))) (fun k=>?_))
    ·exact HX0.out.join2 J1 ⟨T.1.mono (fun k hk hf=>hf.elim (fun hf=>hf.elim .inl (fun hf=>.inr ⟨hf.1,by omega⟩)) (fun hf=>.inr ⟨by omega,hf.2⟩)),T2⟩
    ·have:=T.1.size
     constructor
     ·rintro ((hk|hk)|hk)
      ·exact .inl (.inl (.inl hk))
      ·by_cases hk1:k<W1.heap.size
       ·exact .inl (.inl (.inr ⟨hk.1,hk1⟩))
       ·exact .inl (.inr ⟨by omega,hk.2⟩)
      ·exact .inr hk
     ·rintro (((hk|hk)|hk)|hk)
      ·exact .inl (.inl hk)
      ·exact .inl (.inr ⟨hk.1,by omega⟩)
      ·exact .inl (.inr ⟨by omega,hk.2⟩)
      ·exact .inr hk)
   have HI:=hid iLE
   generalize ({ s2 with top:=body,left:=s2.top :: s2.left }:De.Rd)=s9 at *
   clear h hE hsane e1 e2 e3 e4 e5 hW1 HG0 HX0 h1 h2 c1w hys0 hovl he hbl hb1 ctb hga
   go_enter Tryz.func34,Tryz.ntmps34
   go_wp2_with (go_at_call 74;rw[HW1.out];refine HR.out.mono ?_;rintro e w3 ⟨k1,k2,v,rfl,hv⟩;obtain ⟨la3,ln3,lc3,on3,va,vn,vc,ys,rfl,d0,d1,d2,f0,f1,hb3,hn,hrow,HGx⟩:=HK.out w3 v k1 k2 hv;have HG:=hid HGx;have HO:=hid hrow;clear k1 k2 hv HGx hrow)
   have gd:w3.grownBy w3.drew none:=grown_drewN (grown_refl _ _) 1
   have GD:=hid gd
   have gda:w3.grownBy (w3.alloc (.cells #[.slice la3 ln3 lc3] 123)).drew none:=grown_drewN (grown_alloc (grown_refl _ _) _) 1
   have GDA:=hid gda
   have KS:Hid (∀ w',w3.grownBy w' none→w'.cell? ⟨b,0,none⟩=some (.slice la3 ln3 lc3)):=hid (fun w' hg'=>(World.cell?_of_block (hg'.block b hb3 (by simp))).trans d0)
   have e1:(w3.alloc (.cells #[.slice la3 ln3 lc3] 123)).cell? ⟨b,1,none⟩=some (.slice oa on3 oc):=(World.cell?_of_block (alloc_old _ _ _ hb3)).trans d1
   have HOA:=hid (HO.out.kept gda (Classical.em _))
   have HN:Hid (∀ j u,([.slice la3 ln3 lc3]:List Value)[j]?=some u→(w3.alloc (.cells #[.slice la3 ln3 lc3] 123)).drew.cell? ((⟨w3.heap.size,0,none⟩:Addr).add j)=some u):=hid (by intro j u hj;rw[addr_addO,Nat.zero_add];exact cell_blk (alloc_at w3 _) j (by simpa using hj))
   clear gd gda d0 HK HR
   refine wp_region_held_drew (S:=(fun w'=>w'.cell? ⟨b,0,none⟩=some (.slice la3 ln3 lc3))) (by kernel_rfl) (by first|(dsimp only;(first|exact KS.out _ GD.out|exact KS.out _ GDA.out|exact K10.out|exact (World.cell?_setCell_other (w:=w10) _ _ _ (by simp)).trans K10.out))|(first|exact KS.out _ GD.out|exact KS.out _ GDA.out|exact K10.out|exact (World.cell?_setCell_other (w:=w10) _ _ _ (by simp)).trans K10.out)) (fun hHeld=>?_)
   refine wpAnyH_take (i:=0) (oi:=({ dst:=_,op:=_,type:=_,pos:=_,after:=_,guard:=_ }:Oper)) (v:=?_) rfl (by kernel_rfl) (by kernel_rfl) (by kernel_rfl) (fun _ _ _ h=>h) (Or.inl ⟨by rfl,?_⟩) (by assumption) ?_
   rotate_left
   focus (intro w hSw;(try dsimp only at hSw);go_simp;try with_reducible rfl)
   try simp only[Act.put,List.setIfInBounds_toArray,List.set_cons_zero,List.set_cons_succ]
   refine wpAnyH_take (i:=1) (oi:=({ dst:=_,op:=_,type:=_,pos:=_,after:=_,guard:=_ }:Oper)) (v:=?_) rfl (by kernel_rfl) (by kernel_rfl) (by kernel_rfl) (fun _ _ _ h=>h) (Or.inl ⟨by rfl,?_⟩) (by assumption) ?_
   rotate_left
   focus (intro w hSw;(try dsimp only at hSw);go_simp;try with_reducible rfl)
   try simp only[Act.put,List.setIfInBounds_toArray,List.set_cons_zero,List.set_cons_succ]
   refine wpAnyH_take (i:=2) (oi:=({ dst:=_,op:=_,type:=_,pos:=_,after:=_,guard:=_ }:Oper)) (v:=?_) rfl (by kernel_rfl) (by kernel_rfl) (by kernel_rfl) (fun _ _ _ h=>h) (Or.inl ⟨by rfl,?_⟩) (by assumption) ?_
   rotate_left
   focus (intro w hSw;(try dsimp only at hSw);go_simp;try with_reducible rfl)
   try simp only[Act.put,List.setIfInBounds_toArray,List.set_cons_zero,List.set_cons_succ]
   refine wpAnyH_take (i:=3) (oi:=({ dst:=_,op:=_,type:=_,pos:=_,after:=_,guard:=_ }:Oper)) (v:=?_) rfl (by kernel_rfl) (by kernel_rfl) (by kernel_rfl) (fun _ _ _ h=>h) (Or.inl ⟨by rfl,?_⟩) (by assumption) ?_
   rotate_left
   focus (intro w hSw;(try dsimp only at hSw);go_simp;try with_reducible rfl)
   try simp only[Act.put,List.setIfInBounds_toArray,List.set_cons_zero,List.set_cons_succ]
   refine wpAnyH_take (i:=5) (oi:=({ dst:=_,op:=_,type:=_,pos:=_,after:=_,guard:=_ }:Oper)) (v:=?_) rfl (by kernel_rfl) (by kernel_rfl) (by kernel_rfl) (fun _ _ _ h=>h) (Or.inl ⟨by rfl,?_⟩) (by assumption) ?_
   rotate_left
   focus (intro w hSw;(try dsimp only at hSw);go_simp;try with_reducible rfl)
   try simp only[Act.put,List.setIfInBounds_toArray,List.set_cons_zero,List.set_cons_succ]
   refine wpAnyH_take (i:=6) (oi:=({ dst:=_,op:=_,type:=_,pos:=_,after:=_,guard:=_ }:Oper)) (v:=?_) rfl (by kernel_rfl) (by kernel_rfl) (by kernel_rfl) (fun _ _ _ h=>h) (Or.inl ⟨by rfl,?_⟩) (by assumption) ?_
   rotate_left
   focus (intro w hSw;(try dsimp only at hSw);go_simp;try with_reducible rfl)
   try simp only[Act.put,List.setIfInBounds_toArray,List.set_cons_zero,List.set_cons_succ]
   refine wpAnyH_take (i:=7) (oi:=({ dst:=_,op:=_,type:=_,pos:=_,after:=_,guard:=_ }:Oper)) (v:=?_) rfl (by kernel_rfl) (by kernel_rfl) (by kernel_rfl) (fun _ _ _ h=>h) (Or.inl ⟨by rfl,?_⟩) (by assumption) ?_
   rotate_left
   focus (intro w hSw;(try dsimp only at hSw);go_simp;try with_reducible rfl)
   try simp only[Act.put,List.setIfInBounds_toArray,List.set_cons_zero,List.set_cons_succ]
   refine wpAnyH_take (i:=8) (oi:=({ dst:=_,op:=_,type:=_,pos:=_,after:=_,guard:=_ }:Oper)) (v:=?_) rfl (by kernel_rfl) (by kernel_rfl) (by kernel_rfl) (fun _ _ _ h=>h) (Or.inl ⟨by rfl,?_⟩) (by assumption) ?_
   rotate_left
   focus (intro w hSw;(try dsimp only at hSw);go_simp;try with_reducible rfl)
   try simp only[Act.put,List.setIfInBounds_toArray,List.set_cons_zero,List.set_cons_succ]
   repeat' first
    |(refine wpAnyH_done (by decide +kernel) ?_ _)
    |(refine wpAnyH_ready (rs:=[4,9]) (by decide +kernel) (by simp) ?_)
    |(refine wpAnyH_ready (rs:=[4]) (by decide +kernel) (by simp) ?_)
    |(refine wpAnyH_ready (rs:=[10]) (by decide +kernel) (by simp) ?_)
    |(refine wpAnyH_ready (rs:=[13]) (by decide +kernel) (by simp) ?_)
    |(refine wpAnyH_ready (rs:=[9]) (by decide +kernel) (by simp) ?_)
    |exact AllReadyH.nil
    |(refine AllReadyH.cons (o:=({ dst:=_,op:=_,type:=_,pos:=_,after:=_,guard:=_ }:Oper)) rfl (fun Kq hKq=>?_) ?_;(focus ((first|((refine step_appN2 (by rfl) (.tmp 19) (.tmp 24) 124 (by rfl) 0 123 (.slice none 0 0) 1 24 Tryz.underlying124 HI.out rfl (by decide) (by decide) _ on3 ys (by rfl) HOA.out ⟨w3.heap.size,0,none⟩ 1 _ [.slice la3 ln3 lc3] (by rfl) rfl HN.out (by intro u hu;simp at hu;rw[hu];rfl) (by omega) (Nat.zero_le _) ?_;intro v' w10 ho10 hg10 hv10;obtain ⟨va',vg',vc',hv',q1,q2,q3,q4,q5⟩:=own_formN ho10;subst hv';clear q1 q2 q3 q4 q5;obtain ⟨dd1,ff1,dd0,ff0,kk1,kk2⟩:=HG.out _ _ _ GDA.out ho10 hg10 hv10;have K10:=hid dd0;have FF0:=hid ff0;have KK1:=hid kk1;have KK2:=hid kk2;clear ho10 hg10 hv10 kk1 kk2 dd0 ff0))|go_simp);(refine hKq.out _ _ (by first|(dsimp only;(first|exact KS.out _ GD.out|exact KS.out _ GDA.out|exact K10.out|exact (World.cell?_setCell_other (w:=w10) _ _ _ (by simp)).trans K10.out))|(first|exact KS.out _ GD.out|exact KS.out _ GDA.out|exact K10.out|exact (World.cell?_setCell_other (w:=w10) _ _ _ (by simp)).trans K10.out)) (fun hHeld=>?_));(clear hKq Kq);(try simp only[Act.put,List.setIfInBounds_toArray,List.set_cons_zero,List.set_cons_succ]))))
    |(refine wpAnyH_take (i:=11) (oi:=({ dst:=_,op:=_,type:=_,pos:=_,after:=_,guard:=_ }:Oper)) (v:=?_) rfl (by kernel_rfl) (by kernel_rfl) (by decide +kernel) (fun _ _ _ h=>h) (Or.inl ⟨by rfl,?_⟩) (by assumption) ?_;rotate_left;focus (intro w hSw;(try dsimp only at hSw);go_simp;try with_reducible rfl);try simp only[Act.put,List.setIfInBounds_toArray,List.set_cons_zero,List.set_cons_succ])
    |(refine wpAnyH_take (i:=12) (oi:=({ dst:=_,op:=_,type:=_,pos:=_,after:=_,guard:=_ }:Oper)) (v:=?_) rfl (by kernel_rfl) (by kernel_rfl) (by decide +kernel) (fun _ _ _ h=>h) (Or.inl ⟨by rfl,?_⟩) (by assumption) ?_;rotate_left;focus (intro w hSw;(try dsimp only at hSw);go_simp;try with_reducible rfl);try simp only[Act.put,List.setIfInBounds_toArray,List.set_cons_zero,List.set_cons_succ])
   all_goals
    have ff0:=FF0.out
    have dd0:=K10.out
    show Exit.then _ _ _ _ _
    go_wp2
    go_ret
    exact ⟨KK1.out,KK2.out,rfl⟩
  ·exfalso
   unfold readP nextP at e1
   rw[if_pos (by simp[he])] at e1
   exact absurd (congrArg Prod.snd e1) (by simp)
structure RowI (A:Nat→Addr) (W0 w:World) (F F':Nat→Prop) (b:Nat) (s':De.Rd) (e:TypeId) (sz n:Nat) (xs:List Value) (r:Value) (wr:World):Prop where
 upto:Upto F w wr
 rd:PrR A W0 F' b s' wr
 sub:∀ k,F' k→Ext F w wr k
 row:wr.ownsRow w.heap.size e sz r n xs
 free:∀ k,r.ownBlock=some k→¬ F' k
section
variable {A:Nat→Addr} {W0 w w2 w3 wr:World} {F F':Nat→Prop} {b:Nat} {s s' s2:De.Rd} {e:TypeId} {sz n m:Nat} {xs ys:List Value} {r r2:Value}
theorem RowI.still (h:RowI A W0 w F F' b s' e sz n xs r wr) (hg:wr.grownBy w2 none):RowI A W0 w F F' b s' e sz n xs r w2 :=
 ⟨h.upto.trans (Upto.of_grown F hg) (fun _ _ h=>h),h.rd.still hg,fun k hk=>by
  have:=hg.size
  rcases h.sub k hk with h1|h1
  ·exact .inl h1
  ·exact .inr ⟨h1.1,by omega⟩,own_upto h.row (Upto.of_grown (fun _=>False) hg) (fun _ _ h=>h),h.free⟩
theorem RowI.call (hw:∀ k,F k→k<w.heap.size) (h:RowI A W0 w F F' b s' e sz n xs r wr) (hu:Upto F' wr w2) (hr:PrR A W0 (Ext F' wr w2) b s2 w2):RowI A W0 w F (Ext F' wr w2) b s2 e sz n xs r w2:=by
 have h1:=h.upto.size
 have h2:=hu.size
 refine ⟨h.upto.trans hu (fun k hk hf=>?_),hr,fun k hk=>?_,own_upto h.row hu h.free,fun k hk hf=>?_⟩
 ·rcases h.sub k hf with hf|hf
  ·exact hf
  ·omega
 ·rcases hk with hk|hk
  ·rcases h.sub k hk with h3|h3
   ·exact .inl h3
   ·exact .inr ⟨h3.1,by omega⟩
  ·exact .inr ⟨by omega,hk.2⟩
 ·rcases hf with hf|hf
  ·exact h.free k hk hf
  ·have:=(h.row.lt k hk).2;omega
theorem RowI.more (hb:W0.grownBy w none) (h:RowI A W0 w F F' b s' e sz n xs r wr) (h5:wr.grownBy w2 none) (ho:w3.ownsRow w.heap.size e sz r2 m ys) (hg:w2.grownBy w3 r.ownBlock) (hbk:r2.ownBlock=r.ownBlock∨r2.ownBlock=some w2.heap.size):RowI A W0 w F F' b s' e sz m ys r2 w3:=by
 have h2:=h.still h5
 have hub:Upto (fun k=>r.ownBlock=some k) w2 w3:=Upto.of_row hg (fun k hk=>.inl hk)
 have hlow:∀ k,r.ownBlock=some k→w.heap.size≤k:=fun k hk=>(h2.row.lt k hk).1
 have hs:=hb.size
 refine ⟨h2.upto.trans hub (fun k hk hf=>?_),h2.rd.other (G:=fun k=>r.ownBlock=some k) (G':=fun k=>r.ownBlock=some k) (fun k hk=>by have:=hlow k hk;omega) ⟨hub,fun _ _ h=>h⟩ (fun k hk hf=>h2.free k hk hf),fun k hk=>?_,ho,fun k hk hf=>?_⟩
 ·have:=hlow k hf;omega
 ·have:=hub.size
  rcases h2.sub k hk with h3|h3
  ·exact .inl h3
  ·exact .inr ⟨h3.1,by omega⟩
 ·rcases hbk with hbk|hbk
  ·exact h2.free k (by rw[←hbk,hk]) hf
  ·rw[hk] at hbk
   have e:=Option.some.inj hbk
   have:=(h2.rd.own k hf).2
   omega
theorem RowI.done (hw:∀ k,F k→W0.heap.size≤k∧k<w.heap.size) (hb:W0.grownBy w none) (h:RowI A W0 w F F' b s' e sz n xs r wr):Upto F w wr∧PrR A W0 (Ext F w wr) b s' wr:=⟨h.upto,h.rd.wide h.sub (ext_own hb hw h.upto.size)⟩
end
section
variable {A:Nat→Addr} {W0 w w2:World} {F:Nat→Prop} {b:Nat} {s:De.Rd}
theorem PrR.afterO {w':World} {Z:Value} {p:De.Rd×Option (World→Value→Prop)} {e:Ending} (h:PrR A W0 F b s w) (hg:w.grownBy w2 none) (hp:PrROut A W0 (Ext F w w2) b w2 w' Z p e):PrROut A W0 F b w w' Z p e:=by
 obtain ⟨h1,h2,h3⟩:=hp
 have:=h.join2 ⟨Upto.of_grown F hg,h.grow hg⟩ ⟨h1,h2⟩
 exact ⟨this.1,this.2,h3⟩
theorem prROut_val {w':World} {Z:Value} {p:De.Rd×Option (World→Value→Prop)} {e:Ending} (h:PrROut A W0 F b w w' Z p e):∃ v,e=.returned v∧PrROut A W0 F b w w' Z p (.returned v):=by
 obtain ⟨k1,k2,k3⟩:=h
 obtain ⟨p1,p2⟩:=p
 cases p2 with
 |none=>exact ⟨_,k3,k1,k2,rfl⟩
 |some V =>
  obtain ⟨v,k4,k5⟩:=k3
  exact ⟨v,k4,k1,k2,v,rfl,k5⟩
end
end Go.Proofs.YtijkaknggdaajaaGreatDoor
