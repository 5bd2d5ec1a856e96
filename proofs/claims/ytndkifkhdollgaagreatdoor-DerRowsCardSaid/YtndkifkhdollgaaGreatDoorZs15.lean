import Derived.Test.YtndkifkhdollgaaGreatDoorZs00
import Derived.Test.YtndkifkhdollgaaGreatDoorZs09
import Derived.Test.YtndkifkhdollgaaGreatDoorZs12
import Derived.Test.YtndkifkhdollgaaGreatDoorZs13
import Derived.Test.YtndkifkhdollgaaGreatDoorZs14
import Derived.Laws.Rows
import Derived.Laws.Tables
set_option linter.unusedVariables false
set_option linter.unusedSimpArgs false
set_option maxRecDepth 100000
set_option maxHeartbeats 2000000
namespace Go.Proofs.YtndkifkhdollgaaGreatDoor
open Lib (hid)
open Go.RowKit
namespace Cal
def nums (l:List Nat) (k:Nat):List Int:=(List.range k).map fun j=>((num2 l (2*j):Nat):Int)
theorem nums_len (l:List Nat) (k:Nat):(nums l k).length=k:=by simp[nums]
theorem nums_succ (l:List Nat) (k:Nat):nums l (k+1)=nums l k++[((num2 l (2*k):Nat):Int)]:=by simp[nums,List.range_succ]
theorem figs_all:∀ (l:List Nat),l.all fig=true↔∀ j,j<l.length→fig (l.getD j 0)=true
 |[]=>by simp
 |x :: r=>by
  rw[List.all_cons,Bool.and_eq_true,figs_all r]
  constructor
  ·rintro ⟨h1,h2⟩ j hj
   match j with
   |0=>exact h1
   |j+1=>exact h2 j (by simpa using hj)
  ·exact fun h=>⟨h 0 (by simp),fun j hj=>h (j+1) (by simpa using hj)⟩
theorem figs14 {l:List Nat} (h:l.length=15):(l.take 14).all fig=true↔∀ j,j<14→fig (l.getD j 0)=true:=by
 rw[figs_all,List.length_take,h]
 constructor
 ·intro h1 j hj
  have:=h1 j hj
  rwa [List.getD_eq_getElem?_getD,List.getElem?_take,if_pos hj,←List.getD_eq_getElem?_getD] at this
 ·intro h1 j hj
  rw[List.getD_eq_getElem?_getD,List.getElem?_take,if_pos (by omega),←List.getD_eq_getElem?_getD]
  exact h1 j (by omega)
theorem fig_no {l:List Nat} (h:l.length=15) {j:Nat} (hj:j<14) (hf:fig (l.getD j 0)=false):get l=.error 4:=by
 rw[get,if_pos]
 right;right
 rw[Bool.eq_false_iff]
 intro h1
 have:=(figs14 h).1 h1 j hj
 rw[hf] at this
 cases this
theorem num2_lt {l:List Nat} {j:Nat} (h1:fig (l.getD j 0)=true) (h2:fig (l.getD (j+1) 0)=true):num2 l j<100:=by
 unfold fig at h1 h2
 simp only[Bool.and_eq_true,decide_eq_true_eq] at h1 h2
 unfold num2
 omega
end Cal
theorem Cal.right_iff (d:Cal.Date):Cal.rightI d.toI=true↔Cal.Right d:=⟨fun h=>(Cal.right_of h).1,fun h=>(Cal.rightI_of h).1⟩
theorem wrapN (n:Nat) (h:n<1000000):IntKind.i64.wrap (n:Int)=n:=by
 simp only[IntKind.wrap,IntKind.bits,IntKind.signed]
 simp
 omega
def mGot:Except Nat Nat→Value
 |.ok n=>.tuple #[.int .i64 (n:Int),.int .i64 0]
 |.error k=>.tuple #[.int .i64 0,.int .i64 (k:Int)]
theorem refMGet_any (v:Value) (l:List Nat) (w:World) (hB:Bytes w v l):Calls Tryz.prog 128 #[v] w fun e w'=>e=.returned (mGot (Cal.get l))∧w.grownBy w' none:=by
 obtain ⟨hlt,a,sb,so,c,rfl,hc,ha,hcell⟩:=hB
 by_cases h15:l.length=15
 ·obtain ⟨rfl,hsb⟩:=ha (by omega)
  obtain ⟨z,hz⟩:∃ z,z=l.getD 14 0:=⟨_,rfl⟩
  have c14:w.cell? ⟨sb,so+14,none⟩=some (.int .u8 (z:Nat)):=by rw[hz];exact hcell 14 (by omega)
  by_cases h90:z=90
  ·subst h90
   have Hc:=hid hcell
   have HLt:Hid (∀ j,l.getD j 0<256):=hid (fun j=>by
    rcases Nat.lt_or_ge j l.length with h|h
    ·rw[List.getD_eq_getElem?_getD,List.getElem?_eq_getElem h];exact hlt _ (List.getElem_mem h)
    ·rw[List.getD_eq_getElem?_getD,List.getElem?_eq_none h];decide)
   have HNo:=hid (fun (j:Nat) (hj:j<14) hf=>Cal.fig_no (j:=j) h15 hj hf)
   have HYes:Hid ((∀ j,j<14→Cal.fig (l.getD j 0)=true)→Cal.get l=if Cal.Right (Cal.dateOf l) then .ok (Cal.sec (Cal.dateOf l)) else .error 1):=hid (fun h=>by
    rw[Cal.get,if_neg]
    rintro (h1|h1|h1)
    ·exact h1 h15
    ·exact h1 hz.symm
    ·rw[(Cal.figs14 h15).2 h] at h1;cases h1)
   have H15:=hid h15
   have HSb:=hid hsb
   obtain ⟨n,hn⟩:∃ n,n=l.length:=⟨_,rfl⟩
   have HN:=hid hn
   have F0:Hid (FrI w (w.alloc (.cells #[] 3)) (.slice (some ⟨w.heap.size,0,none⟩) 0 0) (Cal.nums l 0)):=hid ⟨World.grownBy_alloc _ _ _,ownsRow_lit (alloc_at w _) (Nat.le_refl _) (by simp)⟩
   rw[←hn] at h15 ⊢ hc
   subst h15
   clear hlt hcell hz ha hsb hn
   go_enter Tryz.func128,Tryz.ntmps128
   go_wp2
   go_loopw [4,5] (fun u i wr=>∃ k p:Nat,k≤7∧p=2*k∧i=.int .i64 ((p:Nat):Int)∧FrI w wr u (Cal.nums l k)∧∀ j,j<p→Cal.fig (l.getD j 0)=true) (fun _ i _=>14-(intOf i).toNat)
   case atStart=>exact ⟨0,0,by omega,rfl,rfl,F0.out,fun j hj=>absurd hj (by omega)⟩
   case round =>
    obtain ⟨k,p,hk,hp,rfl,hF,hfg⟩:=hrel
    have HF:=hid hF
    have HFg:=hid hfg
    by_cases hk7:k<7
    ·have hp14:p<14:=by omega
     obtain ⟨x,hx⟩:∃ x,x=l.getD p 0:=⟨_,rfl⟩
     obtain ⟨y,hy⟩:∃ y,y=l.getD (p+1) 0:=⟨_,rfl⟩
     have q0:wr.cell? ⟨sb,so+p,none⟩=some (.int .u8 (x:Nat)):=by rw[World.cell?_of_block (hF.grown.block _ HSb.out (by simp)),hx];exact Hc.out p (by rw[H15.out];omega)
     have q1:wr.cell? ⟨sb,so+(p+1),none⟩=some (.int .u8 (y:Nat)):=by rw[World.cell?_of_block (hF.grown.block _ HSb.out (by simp)),hy];exact Hc.out (p+1) (by rw[H15.out];omega)
     have hx256:x<256:=by rw[hx];exact HLt.out _
     have hy256:y<256:=by rw[hy];exact HLt.out _
     have HN0:=hid (HNo.out p hp14)
     have HN1:=hid (HNo.out (p+1) (by omega))
     have HK:=hid hp
     have hpe:p≤12:=by omega
     clear hF hfg hp
     rw[←hx] at HN0
     rw[←hy] at HN1
     have HX:=hid hx
     have HY:=hid hy
     clear hx hy
     by_cases hx48:x<48
     ·have hR:Hid (Cal.get l=.error 4):=hid (HN0.out (by simp[Cal.fig];omega))
      go_wp2
      go_ret2
      exact ⟨by rw[hR.out];rfl,HF.out.grown⟩
     by_cases hx57:57<x
     ·have hR:Hid (Cal.get l=.error 4):=hid (HN0.out (by simp[Cal.fig];omega))
      go_wp2
      go_ret2
      exact ⟨by rw[hR.out];rfl,HF.out.grown⟩
     by_cases hy48:y<48
     ·have hR:Hid (Cal.get l=.error 4):=hid (HN1.out (by simp[Cal.fig];omega))
      go_wp2
      go_ret2
      exact ⟨by rw[hR.out];rfl,HF.out.grown⟩
     by_cases hy57:57<y
     ·have hR:Hid (Cal.get l=.error 4):=hid (HN1.out (by simp[Cal.fig];omega))
      go_wp2
      go_ret2
      exact ⟨by rw[hR.out];rfl,HF.out.grown⟩
     have HNx:Hid (Cal.nums l (k+1)=Cal.nums l k++[(((x-48)*10+(y-48):Nat):Int)]):=hid (by rw[Cal.nums_succ,←HK.out,Cal.num2,←HX.out,←HY.out])
     have HFn:Hid (∀ j,j<p+2→Cal.fig (l.getD j 0)=true):=hid (fun j hj=>by
      rcases Nat.lt_trichotomy j p with h|h|h
      ·exact HFg.out j h
      ·subst h;rw[←HX.out];simp[Cal.fig];omega
      ·obtain rfl:j=p+1:=by omega
       rw[←HY.out];simp[Cal.fig];omega)
     go_wp2
     refine wp_region_move_quiet_tail (fun w'=>∃ n,w'=wr.drewN n) 16 (.tmp 4) rfl rfl (by kernel_rfl) (by kernel_rfl) ⟨1,rfl⟩ ?_
     simp only[List.take_succ_cons,List.take_zero,List.drop_succ_cons,List.drop_zero]
     simp only[Act.put,List.setIfInBounds_toArray,List.set_cons_succ,List.set_cons_zero]
     repeat (first|go_big_quiet_step (fail)|quiet_step (fail))
     refine wpQuiet_nil ?_
     rintro _ ⟨nq,rfl⟩
     have HF1:=hid ((HF.out.more (grown_drewN (grown_refl wr none) nq)).alloc (.cells #[.int .i64 (((x:Int)-48)*10+((y:Int)-48))] 3))
     go_wp2_with (at_builtin;refine wpList_app1 (by rfl) (.tmp 49) (.tmp 65) 46 (by rfl) w.heap.size 3 (.int .i64 0) 8 Tryz.underlying46 (by kernel_rfl) rfl (by decide) _ _ (cellsI (Cal.nums l k)) (by rfl) HF1.out.own ⟨wr.heap.size,0,none⟩ (.int .i64 (((x:Int)-48)*10+((y:Int)-48))) (by rfl) (cell_blk (alloc_at _ _) 0 rfl) rfl (by rw[Cal.nums_len];omega) HF1.out.le ?_;intro v3 w3 ho3 hg3;have HH:=hid (HF1.out.step (l':=Cal.nums l (k+1)) ho3 hg3 (by rw[HNx.out,cellsI_append];congr 2;simp only;congr 2;omega));clear ho3 hg3)
     refine NoPanic.normal ?_
     go_wp2
     go_roundw
     case rel=>exact ⟨k+1,p+2,by omega,by have:=HK.out;omega,by go_num,HH.out,HFn.out⟩
     case measure=>simp[intOf];omega
    ·obtain rfl:k=7:=by omega
     obtain rfl:p=14:=hp
     have hget:=HYes.out hfg
     have hn0:=Cal.num2_lt (hfg 0 (by omega)) (hfg 1 (by omega))
     have hn1:=Cal.num2_lt (hfg 2 (by omega)) (hfg 3 (by omega))
     obtain ⟨d,hd⟩:∃ d,d=Cal.dateOf l:=⟨_,rfl⟩
     rw[←hd] at hget
     have HGet:=hid hget
     have HD:=hid hd
     have HYw:Hid (IntKind.i64.wrap (IntKind.i64.wrap (((Cal.num2 l 0:Nat):Int)*100)+((Cal.num2 l 2:Nat):Int))=(d.Y:Int)):=hid (by
      rw[show ((Cal.num2 l 0:Nat):Int)*100=((Cal.num2 l 0*100:Nat):Int) by omega,wrapN _ (by omega),show ((Cal.num2 l 0*100:Nat):Int)+((Cal.num2 l 2:Nat):Int)=((Cal.num2 l 0*100+Cal.num2 l 2:Nat):Int) by omega,wrapN _ (by omega),hd];rfl)
     obtain ⟨ga,g,c',rfl,h71,h72,h73,h74⟩:=ownsRow_form hF.own
     rw[Cal.nums_len] at h71 h73 h74 ⊢
     obtain ⟨rfl,hgb,hgs⟩:=h73 (by omega)
     have HC:Hid (∀ W,wr.grownBy W none→∀ k z,[((Cal.num2 l 0:Nat):Int),((Cal.num2 l 2:Nat):Int),(d.M:Int),(d.D:Int),(d.h:Int),(d.mi:Int),(d.s:Int)][k]?=some z→W.cell? ⟨g,0+k,none⟩=some (.int .i64 z)):=hid (fun W hW k z hz=>by
      have hk:=(List.getElem?_eq_some_iff.1 hz).1
      simp only[List.length_cons,List.length_nil] at hk
      rw[hd] at hz
      rw[Nat.zero_add,World.cell?_of_block (hW.block _ hgs (by simp)),h74 k (by omega)]
      match k,hk,hz with
      |0,_,hz=>cases hz;rfl
      |1,_,hz=>cases hz;rfl
      |2,_,hz=>cases hz;rfl
      |3,_,hz=>cases hz;rfl
      |4,_,hz=>cases hz;rfl
      |5,_,hz=>cases hz;rfl
      |6,_,hz=>cases hz;rfl)
     have HRi:=hid (fun W=>refDRight_any d.toI W)
     have HSe:=hid (fun hr W=>refSeconds_any d hr W)
     have HIff:=hid (Cal.right_iff d)
     clear hF hfg hget hn0 hn1 hd h71 h72 h73 h74 hgb hgs
     obtain ⟨DC,hDC⟩:∃ DC:Array Value,DC=#[.int .i64 (d.Y:Int),.int .i64 (d.M:Int),.int .i64 (d.D:Int),.int .i64 (d.h:Int),.int .i64 (d.mi:Int),.int .i64 (d.s:Int)]:=⟨_,rfl⟩
     have HDs:Hid (DC.size=6):=hid (by rw[hDC];rfl)
     have HInf:Hid ((Tryz.prog.info? 182).map (·.size)=some 6):=hid (by kernel_rfl)
     have HDv:Hid (dV d.toI=.agg DC):=hid (by rw[hDC];rfl)
     rw[HDv.out] at HRi HSe
     have HDC:=hid hDC
     clear hDC
     go_wp2
     refine gt_region _ g c' _ _ _ _ _ _ _ (d.Y:Int) wr _ _ rfl rfl HC.out HYw.out ⟨rfl,rfl,rfl,Nat.le_refl _,fun _ _ _=>rfl⟩ (fun us w3 b e6 hb hg3 hrow=>?_)
     simp only[fill_cons,fill_nil,Act.put,List.setIfInBounds_toArray,List.set_cons_succ,List.set_cons_zero]
     rw[e6]
     rw[←HDC.out] at hrow
     have HRow:=hid hrow
     have HG3:=hid (grown_trans HF.out.grown hg3)
     clear hrow hg3 e6 hb
     by_cases hr:Cal.Right d
     ·have HRt:Hid (Cal.rightI d.toI=true):=hid (HIff.out.2 hr)
      have HSe2:=hid (HSe.out hr)
      have HFin:Hid (Cal.get l=.ok (Cal.sec d)):=hid (by rw[HGet.out,if_pos hr])
      rw[HRt.out] at HRi
      clear hr
      go_wp2_with (first
       |(refine wpList_load_row (by rfl) 182 (.tmp 6) (by rfl) b (by rfl) _ DC (0,0) _ HRow4.out Tryz.underlying182 (by rfl) (by rw[HDs.out];exact HInf.out) ?_)
       |(refine wpList_load_row (by rfl) 182 (.tmp 6) (by rfl) b (by rfl) _ DC (0,0) _ HRow.out Tryz.underlying182 (by rfl) (by rw[HDs.out];exact HInf.out) ?_)
       |(go_at_call 171;refine (HRi.out _).mono ?_;rintro e w4 ⟨rfl,hg4⟩;have HG4:=hid (grown_trans HG3.out hg4);have HRow4:=hid ((hg4.block b (blk_lt HRow.out) (by simp)).trans HRow.out);clear hg4)
       |(go_at_call 172;refine (HSe2.out _).mono ?_;rintro e w5 ⟨rfl,hg5⟩;have HG5:=hid (grown_trans HG4.out hg5);clear hg5))
      go_ret2
      exact ⟨by rw[HFin.out];rfl,HG5.out⟩
     ·have HRt:Hid (Cal.rightI d.toI=false):=hid (by rw[Bool.eq_false_iff];exact fun h=>hr (HIff.out.1 h))
      have HFin:Hid (Cal.get l=.error 1):=hid (by rw[HGet.out,if_neg hr])
      rw[HRt.out] at HRi
      clear hr
      go_wp2_with (first
       |(refine wpList_load_row (by rfl) 182 (.tmp 6) (by rfl) b (by rfl) _ DC (0,0) _ HRow.out Tryz.underlying182 (by rfl) (by rw[HDs.out];exact HInf.out) ?_)
       |(go_at_call 171;refine (HRi.out _).mono ?_;rintro e w4 ⟨rfl,hg4⟩;have HG4:=hid (grown_trans HG3.out hg4);clear hg4))
      go_ret2
      exact ⟨by rw[HFin.out];rfl,HG4.out⟩
  ·have hR:Hid (Cal.get l=.error 4):=hid (by rw[Cal.get,if_pos];exact .inr (.inl (by rw[←hz];exact h90)))
   have hz256:z<256:=by rw[hz];exact (by rw[List.getD_eq_getElem?_getD,List.getElem?_eq_getElem (by omega)];exact hlt _ (List.getElem_mem _))
   obtain ⟨n,hn⟩:∃ n,n=l.length:=⟨_,rfl⟩
   rw[←hn] at h15 ⊢ hc
   subst h15
   clear hlt hcell hz ha hsb hn
   go_enter Tryz.func128,Tryz.ntmps128
   go_wp2
   go_ret2
   exact ⟨by rw[hR.out];rfl,grown_refl _ _⟩
 ·have hR:Hid (Cal.get l=.error 4):=hid (by rw[Cal.get,if_pos (.inl h15)])
  obtain ⟨n,hn⟩:∃ n,n=l.length:=⟨_,rfl⟩
  rw[←hn] at h15 ⊢ hc
  clear hlt hcell ha hn
  go_enter Tryz.func128,Tryz.ntmps128
  go_wp2
  go_ret2
  exact ⟨by rw[hR.out];rfl,grown_refl _ _⟩
end Go.Proofs.YtndkifkhdollgaaGreatDoor
