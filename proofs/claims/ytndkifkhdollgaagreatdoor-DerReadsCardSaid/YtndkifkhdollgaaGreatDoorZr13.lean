import Derived.Test.YtndkifkhdollgaaGreatDoorZr00
import Derived.Test.YtndkifkhdollgaaGreatDoorZr08
import Derived.Test.YtndkifkhdollgaaGreatDoorZr11
import Derived.Test.YtndkifkhdollgaaGreatDoorZr12
import Derived.Laws.Rows
import Derived.Laws.Tables
set_option linter.unusedVariables false
set_option linter.unusedSimpArgs false
set_option maxRecDepth 100000
set_option maxHeartbeats 2000000
namespace Go.Proofs.YtndkifkhdollgaaGreatDoor
open Lib (hid)
open Go.RowKit
abbrev dV (d:Cal.DI):Value:=.agg #[.int .i64 d.Y,.int .i64 d.M,.int .i64 d.D,.int .i64 d.h,.int .i64 d.mi,.int .i64 d.s]
def dCells (d:Cal.DI):List Int:=[d.Y,d.M,d.D,d.h,d.mi,d.s]
theorem dCell {w W:World} {b:Nat} {t:TypeId} {fr:Nat×Nat} {d:Cal.DI} (h:w.heap[b]?=some (.cells #[.int .i64 d.Y,.int .i64 d.M,.int .i64 d.D,.int .i64 d.h,.int .i64 d.mi,.int .i64 d.s] t fr)) (hg:w.grownBy W none) :
  ∀ k z,(dCells d)[k]?=some z→W.cell? ⟨b,k,none⟩=some (.int .i64 z):=fun k z hz=>by
 have h2:W.heap[b]?=_:=(hg.block b (blk_lt h) (by simp)).trans h
 refine cell_blk h2 k ?_
 match k,hz with
 |0,hz=>obtain rfl:=Option.some.inj hz;rfl
 |1,hz=>obtain rfl:=Option.some.inj hz;rfl
 |2,hz=>obtain rfl:=Option.some.inj hz;rfl
 |3,hz=>obtain rfl:=Option.some.inj hz;rfl
 |4,hz=>obtain rfl:=Option.some.inj hz;rfl
 |5,hz=>obtain rfl:=Option.some.inj hz;rfl
 |n+6,hz=>cases hz
theorem refDRight_any (d:Cal.DI) (w:World):Calls Tryz.prog 171 #[dV d] w fun e w'=>e=.returned (.bool (Cal.rightI d))∧w.grownBy w' none:=by
 have HD:=hid (fun W=>refDays_any d.Y d.M W)
 obtain ⟨Y,M,D,h,mi,s⟩:=d
 have HR:Hid (Cal.rightI ⟨Y,M,D,h,mi,s⟩=(decide (1970≤Y)&&decide (Y≤9999)&&decide (1≤M)&&decide (M≤12)&&decide (1≤D)&&decide (D≤(Cal.daysI Y M:Nat))&&decide (0≤h)&&decide (h≤23)&&decide (0≤mi)&&decide (mi≤59)&&decide (0≤s)&&decide (s≤59))):=hid rfl
 have HC:=hid (fun W hg=>dCell (W:=W) (d:=⟨Y,M,D,h,mi,s⟩) (alloc_at w (.cells #[.int .i64 Y,.int .i64 M,.int .i64 D,.int .i64 h,.int .i64 mi,.int .i64 s] 182)) hg)
 generalize Cal.daysI Y M=dd at *
 go_enter Tryz.func171,Tryz.ntmps171
 go_wp2
 refine rt_region _ w.heap.size Y M D h mi s dd _ _ _ _ _ _ _ _ _ _ _ _ (w.alloc (.cells #[.int .i64 Y,.int .i64 M,.int .i64 D,.int .i64 h,.int .i64 mi,.int .i64 s] 182)) _ _ rfl rfl (fun W hW=>HC.out W hW) (fun W _=>HD.out W) rfl rfl rfl rfl rfl rfl rfl rfl rfl rfl rfl rfl ⟨rfl,rfl,rfl,Nat.le_refl _,fun _ _ _=>rfl⟩ (fun us w3 hg3=>?_)
 simp only[fill_cons,fill_nil,Act.put,List.setIfInBounds_toArray,List.set_cons_succ,List.set_cons_zero]
 have HG:=hid (grown_trans (World.grownBy_alloc w (.cells #[.int .i64 Y,.int .i64 M,.int .i64 D,.int .i64 h,.int .i64 mi,.int .i64 s] 182) none) hg3)
 rw[←HR.out]
 clear hg3
 go_wp2
 go_ret
 exact ⟨rfl,HG.out⟩
theorem ms_le (y m:Nat):Cal.ms y m≤31*m:=by
 induction m with
 |zero=>exact Nat.le_refl _
 |succ m ih =>
  rw[Cal.ms]
  have:Cal.days y (m+1)≤31:=by rw[←Cal.daysI_nat];exact Cal.daysI_le _ _
  omega
theorem refSeconds_any (d:Cal.Date) (hd:Cal.Right d) (w:World):Calls Tryz.prog 172 #[dV d.toI] w fun e w'=>e=.returned (.int .i64 ((Cal.sec d:Nat):Int))∧w.grownBy w' none:=by
 obtain ⟨Y,M,D,h,mi,s⟩:=d
 obtain ⟨⟨y1,y2⟩,⟨m1,m2⟩,⟨d1,d2⟩,h1,mi1,s1⟩:=hd
 simp only at y1 y2 m1 m2 d1 d2 h1 mi1 s1
 have hd31:=(Cal.days_pos (y:=Y) m1 m2).2
 obtain ⟨k,hk⟩:∃ k,Y=1970+k:=⟨Y-1970,by omega⟩
 have HBe:=hid (fun W=>refBefore_any k (by omega) W)
 have HDa:=hid (fun (j:Nat) W=>by
  have:=refDays_any ((Y:Nat):Int) ((j:Nat):Int) W
  rw[Cal.daysI_nat] at this
  exact this)
 have HU:Hid (Cal.bef k≤2938980):=hid (by have:=Cal.bef_closed k;omega)
 have HMs:Hid (∀ j,Cal.ms Y (j+1)=Cal.ms Y j+Cal.days Y (j+1)):=hid (fun j=>rfl)
 have HMl:=hid (ms_le Y)
 have HDl:Hid (∀ j,Cal.days Y j≤31):=hid (fun j=>by rw[←Cal.daysI_nat];exact Cal.daysI_le _ _)
 have HE:Hid (Cal.sec ⟨Y,M,D,h,mi,s⟩=(((Cal.bef k+(D-1)+Cal.ms Y (M-1))*24+h)*60+mi)*60+s):=hid (by
  unfold Cal.sec Cal.dayOf Cal.clock
  simp only
  rw[show Y-1970=k by omega]
  omega)
 have HC:=hid (fun W hg=>dCell (W:=W) (d:=⟨(Y:Int),(M:Int),(D:Int),(h:Int),(mi:Int),(s:Int)⟩) (alloc_at w (.cells #[.int .i64 (Y:Int),.int .i64 (M:Int),.int .i64 (D:Int),.int .i64 (h:Int),.int .i64 (mi:Int),.int .i64 (s:Int)] 182)) hg)
 obtain ⟨W1,hW1⟩:∃ W1,W1=w.alloc (.cells #[.int .i64 (Y:Int),.int .i64 (M:Int),.int .i64 (D:Int),.int .i64 (h:Int),.int .i64 (mi:Int),.int .i64 (s:Int)] 182):=⟨_,rfl⟩
 have HG1:Hid (w.grownBy W1 none):=hid (by rw[hW1];exact World.grownBy_alloc _ _ _)
 rw[←hW1] at HC
 have HW1:=hid hW1
 have c0:W1.cell? ⟨w.heap.size,0,none⟩=some (.int .i64 (Y:Int)):=HC.out W1 (grown_refl _ _) 0 _ rfl
 have c2:W1.cell? ⟨w.heap.size,2,none⟩=some (.int .i64 (D:Int)):=HC.out W1 (grown_refl _ _) 2 _ rfl
 simp only[Cal.Date.toI]
 generalize Cal.sec ⟨Y,M,D,h,mi,s⟩=SEC at *
 generalize Cal.bef k=b0 at *
 have HYk:=hid hk
 clear y1 hk hW1
 go_enter Tryz.func172,Tryz.ntmps172
 go_wp2
 rw[←HW1.out]
 have hb:=HU.out
 refine wp_region_quiet_tail (fun w'=>∃ n,w'=W1.drewN n) 7 (by kernel_rfl) (by kernel_rfl) ⟨1,rfl⟩ ?_
 simp only[List.take_succ_cons,List.take_zero,List.drop_succ_cons,List.drop_zero]
 iterate 2 (go_big_quiet_step (fail))
 refine wpQuiet_call (by rfl) 200 #[.int .i64 ((Y:Nat):Int)] (.int .i64 (b0:Int)) (fun _=>by simp[go_sem]) (fun w' hw'=>by rw[HYk.out];exact (HBe.out w').mono (fun e w'' h=>⟨h.1,by rw[h.2];exact hw'⟩)) ?_
 simp only[Act.put,List.setIfInBounds_toArray,List.set_cons_succ,List.set_cons_zero]
 repeat (go_big_quiet_step (fail))
 refine wpQuiet_nil ?_
 rintro _ ⟨n3,rfl⟩
 obtain ⟨W2,hW2⟩:∃ W2,W2=W1.drewN n3:=⟨_,rfl⟩
 have HG2:Hid (W1.grownBy W2 none):=hid (by rw[hW2];exact grown_drewN (grown_refl _ _) _)
 rw[←hW2]
 clear hW2 c0 c2
 go_wp2
 go_loopw [3,4] (fun n i wr=>∃ j:Nat,j<M∧i=.int .i64 ((j+1:Nat):Int)∧n=.int .i64 ((b0+(D-1)+Cal.ms Y j:Nat):Int)∧W1.grownBy wr none) (fun _ i _=>100-(intOf i).toNat)
 case atStart=>exact ⟨0,by omega,rfl,by simp only[Cal.ms];congr 1;omega,HG2.out⟩
 case round =>
  obtain ⟨j,hj,rfl,rfl,hg⟩:=hrel
  have HG:=hid hg
  have q0:wr.cell? ⟨w.heap.size,0,none⟩=some (.int .i64 (Y:Int)):=HC.out wr hg 0 _ rfl
  have q1:wr.cell? ⟨w.heap.size,1,none⟩=some (.int .i64 (M:Int)):=HC.out wr hg 1 _ rfl
  have q3:wr.cell? ⟨w.heap.size,3,none⟩=some (.int .i64 (h:Int)):=HC.out wr hg 3 _ rfl
  have q4:wr.cell? ⟨w.heap.size,4,none⟩=some (.int .i64 (mi:Int)):=HC.out wr hg 4 _ rfl
  have q5:wr.cell? ⟨w.heap.size,5,none⟩=some (.int .i64 (s:Int)):=HC.out wr hg 5 _ rfl
  have hml:=HMl.out j
  have hms:=HMs.out j
  have hdl:=HDl.out (j+1)
  clear hg
  obtain ⟨i,hi⟩:∃ i,i=j+1:=⟨_,rfl⟩
  rw[←hi] at hdl hms ⊢
  have HI:=hid hi
  have HDi:=hid (HDa.out i)
  generalize Cal.days Y i=dy at *
  obtain ⟨a,ha⟩:∃ a,a=b0+(D-1)+Cal.ms Y j:=⟨_,rfl⟩
  have hal:a≤3000000:=by omega
  have HA:=hid ha
  have HMs2:=hid hms
  rw[←ha]
  clear hi ha hms hml
  by_cases hjM:i<M
  ·clear q3 q4 q5
   go_wp2_with (go_at_call 177;refine (HDi.out _).mono ?_;rintro e w4 ⟨rfl,hg4⟩;have HG4:=hid (grown_trans HG.out hg4);clear hg4)
   go_roundw
   case rel=>exact ⟨i,by omega,by go_num,by rw[HMs2.out,←Nat.add_assoc,←HA.out];go_num,HG4.out⟩
   case measure=>simp[intOf];omega
  ·have hMj:j=M-1:=by have:=HI.out;omega
   have HE2:Hid (SEC=((a*24+h)*60+mi)*60+s):=hid (by rw[HE.out,HA.out,hMj])
   clear q0 hMj
   go_wp2
   go_ret
   exact ⟨retI2 (by rw[HE2.out];omega),grown_trans HG1.out HG.out⟩
namespace Cal
def nums (l:List Nat) (k:Nat):List Int:=(List.range k).map fun j=>((num2 l (2*j):Nat):Int)
theorem nums_len (l:List Nat) (k:Nat):(nums l k).length=k:=by simp[nums]
theorem nums_succ (l:List Nat) (k:Nat):nums l (k+1)=nums l k++[((num2 l (2*k):Nat):Int)]:=by simp[nums,List.range_succ]
theorem figs_all:∀ (l:List Nat),l.all fig=true↔∀ j,j<l.length→fig (l.getD j 0)=true
 |[]=>by simp
 |x :: r=>by
  rw[List.all_cons,Bool.and_eq_true,figs_all r]
  constructor
  ·rintro ⟨h1,h2⟩ j hj
   match j with
   |0=>exact h1
   |j+1=>exact h2 j (by simpa using hj)
  ·exact fun h=>⟨h 0 (by simp),fun j hj=>h (j+1) (by simpa using hj)⟩
theorem figs14 {l:List Nat} (h:l.length=15):(l.take 14).all fig=true↔∀ j,j<14→fig (l.getD j 0)=true:=by
 rw[figs_all,List.length_take,h]
 constructor
 ·intro h1 j hj
  have:=h1 j hj
  rwa [List.getD_eq_getElem?_getD,List.getElem?_take,if_pos hj,←List.getD_eq_getElem?_getD] at this
 ·intro h1 j hj
  rw[List.getD_eq_getElem?_getD,List.getElem?_take,if_pos (by omega),←List.getD_eq_getElem?_getD]
  exact h1 j (by omega)
theorem fig_no {l:List Nat} (h:l.length=15) {j:Nat} (hj:j<14) (hf:fig (l.getD j 0)=false):get l=.error 4:=by
 rw[get,if_pos]
 right;right
 rw[Bool.eq_false_iff]
 intro h1
 have:=(figs14 h).1 h1 j hj
 rw[hf] at this
 cases this
theorem num2_lt {l:List Nat} {j:Nat} (h1:fig (l.getD j 0)=true) (h2:fig (l.getD (j+1) 0)=true):num2 l j<100:=by
 unfold fig at h1 h2
 simp only[Bool.and_eq_true,decide_eq_true_eq] at h1 h2
 unfold num2
 omega
end Cal
theorem Cal.right_iff (d:Cal.Date):Cal.rightI d.toI=true↔Cal.Right d:=⟨fun h=>(Cal.right_of h).1,fun h=>(Cal.rightI_of h).1⟩
theorem wrapN (n:Nat) (h:n<1000000):IntKind.i64.wrap (n:Int)=n:=by
 simp only[IntKind.wrap,IntKind.bits,IntKind.signed]
 simp
 omega
def mGot:Except Nat Nat→Value
 |.ok n=>.tuple #[.int .i64 (n:Int),.int .i64 0]
 |.error k=>.tuple #[.int .i64 0,.int .i64 (k:Int)]
theorem refMGet_any (v:Value) (l:List Nat) (w:World) (hB:Bytes w v l):Calls Tryz.prog 128 #[v] w fun e w'=>e=.returned (mGot (Cal.get l))∧w.grownBy w' none:=by
 obtain ⟨hlt,a,sb,so,c,rfl,hc,ha,hcell⟩:=hB
 by_cases h15:l.length=15
 ·obtain ⟨rfl,hsb⟩:=ha (by omega)
  obtain ⟨z,hz⟩:∃ z,z=l.getD 14 0:=⟨_,rfl⟩
  have c14:w.cell? ⟨sb,so+14,none⟩=some (.int .u8 (z:Nat)):=by rw[hz];exact hcell 14 (by omega)
  by_cases h90:z=90
  ·subst h90
   have Hc:=hid hcell
   have HLt:Hid (∀ j,l.getD j 0<256):=hid (fun j=>by
    rcases Nat.lt_or_ge j l.length with h|h
    ·rw[List.getD_eq_getElem?_getD,List.getElem?_eq_getElem h];exact hlt _ (List.getElem_mem h)
    ·rw[List.getD_eq_getElem?_getD,List.getElem?_eq_none h];decide)
   have HNo:=hid (fun (j:Nat) (hj:j<14) hf=>Cal.fig_no (j:=j) h15 hj hf)
   have HYes:Hid ((∀ j,j<14→Cal.fig (l.getD j 0)=true)→Cal.get l=if Cal.Right (Cal.dateOf l) then .ok (Cal.sec (Cal.dateOf l)) else .error 1):=hid (fun h=>by
    rw[Cal.get,if_neg]
    rintro (h1|h1|h1)
    ·exact h1 h15
    ·exact h1 hz.symm
    ·rw[(Cal.figs14 h15).2 h] at h1;cases h1)
   have H15:=hid h15
   have HSb:=hid hsb
   obtain ⟨n,hn⟩:∃ n,n=l.length:=⟨_,rfl⟩
   have HN:=hid hn
   have F0:Hid (FrI w (w.alloc (.cells #[] 3)) (.slice (some ⟨w.heap.size,0,none⟩) 0 0) (Cal.nums l 0)):=hid ⟨World.grownBy_alloc _ _ _,ownsRow_lit (alloc_at w _) (Nat.le_refl _) (by simp)⟩
   rw[←hn] at h15 ⊢ hc
   subst h15
   clear hlt hcell hz ha hsb hn
   go_enter Tryz.func128,Tryz.ntmps128
   go_wp2
   go_loopw [4,5] (fun u i wr=>∃ k p:Nat,k≤7∧p=2*k∧i=.int .i64 ((p:Nat):Int)∧FrI w wr u (Cal.nums l k)∧∀ j,j<p→Cal.fig (l.getD j 0)=true) (fun _ i _=>14-(intOf i).toNat)
   case atStart=>exact ⟨0,0,by omega,rfl,rfl,F0.out,fun j hj=>absurd hj (by omega)⟩
   case round =>
    obtain ⟨k,p,hk,hp,rfl,hF,hfg⟩:=hrel
    have HF:=hid hF
    have HFg:=hid hfg
    by_cases hk7:k<7
    ·have hp14:p<14:=by omega
     obtain ⟨x,hx⟩:∃ x,x=l.getD p 0:=⟨_,rfl⟩
     obtain ⟨y,hy⟩:∃ y,y=l.getD (p+1) 0:=⟨_,rfl⟩
     have q0:wr.cell? ⟨sb,so+p,none⟩=some (.int .u8 (x:Nat)):=by rw[World.cell?_of_block (hF.grown.block _ HSb.out (by simp)),hx];exact Hc.out p (by rw[H15.out];omega)
     have q1:wr.cell? ⟨sb,so+(p+1),none⟩=some (.int .u8 (y:Nat)):=by rw[World.cell?_of_block (hF.grown.block _ HSb.out (by simp)),hy];exact Hc.out (p+1) (by rw[H15.out];omega)
     have hx256:x<256:=by rw[hx];exact HLt.out _
     have hy256:y<256:=by rw[hy];exact HLt.out _
     have HN0:=hid (HNo.out p hp14)
     have HN1:=hid (HNo.out (p+1) (by omega))
     have HK:=hid hp
     have hpe:p≤12:=by omega
     clear hF hfg hp
     rw[←hx] at HN0
     rw[←hy] at HN1
     have HX:=hid hx
     have HY:=hid hy
     clear hx hy
     by_cases hx48:x<48
     ·have hR:Hid (Cal.get l=.error 4):=hid (HN0.out (by simp[Cal.fig];omega))
      go_wp2
      go_ret2
      exact ⟨by rw[hR.out];rfl,HF.out.grown⟩
     by_cases hx57:57<x
     ·have hR:Hid (Cal.get l=.error 4):=hid (HN0.out (by simp[Cal.fig];omega))
      go_wp2
      go_ret2
      exact ⟨by rw[hR.out];rfl,HF.out.grown⟩
     by_cases hy48:y<48
     ·have hR:Hid (Cal.get l=.error 4):=hid (HN1.out (by simp[Cal.fig];omega))
      go_wp2
      go_ret2
      exact ⟨by rw[hR.out];rfl,HF.out.grown⟩
     by_cases hy57:57<y
     ·have hR:Hid (Cal.get l=.error 4):=hid (HN1.out (by simp[Cal.fig];omega))
      go_wp2
      go_ret2
      exact ⟨by rw[hR.out];rfl,HF.out.grown⟩
     have HNx:Hid (Cal.nums l (k+1)=Cal.nums l k++[(((x-48)*10+(y-48):Nat):Int)]):=hid (by rw[Cal.nums_succ,←HK.out,Cal.num2,←HX.out,←HY.out])
     have HFn:Hid (∀ j,j<p+2→Cal.fig (l.getD j 0)=true):=hid (fun j hj=>by
      rcases Nat.lt_trichotomy j p with h|h|h
      ·exact HFg.out j h
      ·subst h;rw[←HX.out];simp[Cal.fig];omega
      ·obtain rfl:j=p+1:=by omega
       rw[←HY.out];simp[Cal.fig];omega)
     go_wp2
     refine wp_region_move_quiet_tail (fun w'=>∃ n,w'=wr.drewN n) 16 (.tmp 4) rfl rfl (by kernel_rfl) (by kernel_rfl) ⟨1,rfl⟩ ?_
     simp only[List.take_succ_cons,List.take_zero,List.drop_succ_cons,List.drop_zero]
     simp only[Act.put,List.setIfInBounds_toArray,List.set_cons_succ,List.set_cons_zero]
     repeat (first|go_big_quiet_step (fail)|quiet_step (fail))
     refine wpQuiet_nil ?_
     rintro _ ⟨nq,rfl⟩
     have HF1:=hid ((HF.out.more (grown_drewN (grown_refl wr none) nq)).alloc (.cells #[.int .i64 (((x:Int)-48)*10+((y:Int)-48))] 3))
     go_wp2_with (at_builtin;refine wpList_app1 (by rfl) (.tmp 49) (.tmp 65) 46 (by rfl) w.heap.size 3 (.int .i64 0) 8 Tryz.underlying46 (by kernel_rfl) rfl (by decide) _ _ (cellsI (Cal.nums l k)) (by rfl) HF1.out.own ⟨wr.heap.size,0,none⟩ (.int .i64 (((x:Int)-48)*10+((y:Int)-48))) (by rfl) (cell_blk (alloc_at _ _) 0 rfl) rfl (by rw[Cal.nums_len];omega) HF1.out.le ?_;intro v3 w3 ho3 hg3;have HH:=hid (HF1.out.step (l':=Cal.nums l (k+1)) ho3 hg3 (by rw[HNx.out,cellsI_append];congr 2;simp only;congr 2;omega));clear ho3 hg3)
     refine NoPanic.normal ?_
     go_wp2
     go_roundw
     case rel=>exact ⟨k+1,p+2,by omega,by have:=HK.out;omega,by go_num,HH.out,HFn.out⟩
     case measure=>simp[intOf];omega
    ·obtain rfl:k=7:=by omega
     obtain rfl:p=14:=hp
     have hget:=HYes.out hfg
     have hn0:=Cal.num2_lt (hfg 0 (by omega)) (hfg 1 (by omega))
     have hn1:=Cal.num2_lt (hfg 2 (by omega)) (hfg 3 (by omega))
     obtain ⟨d,hd⟩:∃ d,d=Cal.dateOf l:=⟨_,rfl⟩
     rw[←hd] at hget
     have HGet:=hid hget
     have HD:=hid hd
     have HYw:Hid (IntKind.i64.wrap (IntKind.i64.wrap (((Cal.num2 l 0:Nat):Int)*100)+((Cal.num2 l 2:Nat):Int))=(d.Y:Int)):=hid (by
      rw[show ((Cal.num2 l 0:Nat):Int)*100=((Cal.num2 l 0*100:Nat):Int) by omega,wrapN _ (by omega),show ((Cal.num2 l 0*100:Nat):Int)+((Cal.num2 l 2:Nat):Int)=((Cal.num2 l 0*100+Cal.num2 l 2:Nat):Int) by omega,wrapN _ (by omega),hd];rfl)
     obtain ⟨ga,g,c',rfl,h71,h72,h73,h74⟩:=ownsRow_form hF.own
     rw[Cal.nums_len] at h71 h73 h74 ⊢
     obtain ⟨rfl,hgb,hgs⟩:=h73 (by omega)
     have HC:Hid (∀ W,wr.grownBy W none→∀ k z,[((Cal.num2 l 0:Nat):Int),((Cal.num2 l 2:Nat):Int),(d.M:Int),(d.D:Int),(d.h:Int),(d.mi:Int),(d.s:Int)][k]?=some z→W.cell? ⟨g,0+k,none⟩=some (.int .i64 z)):=hid (fun W hW k z hz=>by
      have hk:=(List.getElem?_eq_some_iff.1 hz).1
      simp only[List.length_cons,List.length_nil] at hk
      rw[hd] at hz
      rw[Nat.zero_add,World.cell?_of_block (hW.block _ hgs (by simp)),h74 k (by omega)]
      match k,hk,hz with
      |0,_,hz=>cases hz;rfl
      |1,_,hz=>cases hz;rfl
      |2,_,hz=>cases hz;rfl
      |3,_,hz=>cases hz;rfl
      |4,_,hz=>cases hz;rfl
      |5,_,hz=>cases hz;rfl
      |6,_,hz=>cases hz;rfl)
     have HRi:=hid (fun W=>refDRight_any d.toI W)
     have HSe:=hid (fun hr W=>refSeconds_any d hr W)
     have HIff:=hid (Cal.right_iff d)
     clear hF hfg hget hn0 hn1 hd h71 h72 h73 h74 hgb hgs
     obtain ⟨DC,hDC⟩:∃ DC:Array Value,DC=#[.int .i64 (d.Y:Int),.int .i64 (d.M:Int),.int .i64 (d.D:Int),.int .i64 (d.h:Int),.int .i64 (d.mi:Int),.int .i64 (d.s:Int)]:=⟨_,rfl⟩
     have HDs:Hid (DC.size=6):=hid (by rw[hDC];rfl)
     have HInf:Hid ((Tryz.prog.info? 182).map (·.size)=some 6):=hid (by kernel_rfl)
     have HDv:Hid (dV d.toI=.agg DC):=hid (by rw[hDC];rfl)
     rw[HDv.out] at HRi HSe
     have HDC:=hid hDC
     clear hDC
     go_wp2
     refine gt_region _ g c' _ _ _ _ _ _ _ (d.Y:Int) wr _ _ rfl rfl HC.out HYw.out ⟨rfl,rfl,rfl,Nat.le_refl _,fun _ _ _=>rfl⟩ (fun us w3 b e6 hb hg3 hrow=>?_)
     simp only[fill_cons,fill_nil,Act.put,List.setIfInBounds_toArray,List.set_cons_succ,List.set_cons_zero]
     rw[e6]
     rw[←HDC.out] at hrow
     have HRow:=hid hrow
     have HG3:=hid (grown_trans HF.out.grown hg3)
     clear hrow hg3 e6 hb
     by_cases hr:Cal.Right d
     ·have HRt:Hid (Cal.rightI d.toI=true):=hid (HIff.out.2 hr)
      have HSe2:=hid (HSe.out hr)
      have HFin:Hid (Cal.get l=.ok (Cal.sec d)):=hid (by rw[HGet.out,if_pos hr])
      rw[HRt.out] at HRi
      clear hr
      go_wp2_with (first
       |(refine wpList_load_row (by rfl) 182 (.tmp 6) (by rfl) b (by rfl) _ DC (0,0) _ HRow4.out Tryz.underlying182 (by rfl) (by rw[HDs.out];exact HInf.out) ?_)
       |(refine wpList_load_row (by rfl) 182 (.tmp 6) (by rfl) b (by rfl) _ DC (0,0) _ HRow.out Tryz.underlying182 (by rfl) (by rw[HDs.out];exact HInf.out) ?_)
       |(go_at_call 171;refine (HRi.out _).mono ?_;rintro e w4 ⟨rfl,hg4⟩;have HG4:=hid (grown_trans HG3.out hg4);have HRow4:=hid ((hg4.block b (blk_lt HRow.out) (by simp)).trans HRow.out);clear hg4)
       |(go_at_call 172;refine (HSe2.out _).mono ?_;rintro e w5 ⟨rfl,hg5⟩;have HG5:=hid (grown_trans HG4.out hg5);clear hg5))
      go_ret2
      exact ⟨by rw[HFin.out];rfl,HG5.out⟩
     ·have HRt:Hid (Cal.rightI d.toI=false):=hid (by rw[Bool.eq_false_iff];exact fun h=>hr (HIff.out.1 h))
      have HFin:Hid (Cal.get l=.error 1):=hid (by rw[HGet.out,if_neg hr])
      rw[HRt.out] at HRi
      clear hr
      go_wp2_with (first
       |(refine wpList_load_row (by rfl) 182 (.tmp 6) (by rfl) b (by rfl) _ DC (0,0) _ HRow.out Tryz.underlying182 (by rfl) (by rw[HDs.out];exact HInf.out) ?_)
       |(go_at_call 171;refine (HRi.out _).mono ?_;rintro e w4 ⟨rfl,hg4⟩;have HG4:=hid (grown_trans HG3.out hg4);clear hg4))
      go_ret2
      exact ⟨by rw[HFin.out];rfl,HG4.out⟩
  ·have hR:Hid (Cal.get l=.error 4):=hid (by rw[Cal.get,if_pos];exact .inr (.inl (by rw[←hz];exact h90)))
   have hz256:z<256:=by rw[hz];exact (by rw[List.getD_eq_getElem?_getD,List.getElem?_eq_getElem (by omega)];exact hlt _ (List.getElem_mem _))
   obtain ⟨n,hn⟩:∃ n,n=l.length:=⟨_,rfl⟩
   rw[←hn] at h15 ⊢ hc
   subst h15
   clear hlt hcell hz ha hsb hn
   go_enter Tryz.func128,Tryz.ntmps128
   go_wp2
   go_ret2
   exact ⟨by rw[hR.out];rfl,grown_refl _ _⟩
 ·have hR:Hid (Cal.get l=.error 4):=hid (by rw[Cal.get,if_pos (.inl h15)])
  obtain ⟨n,hn⟩:∃ n,n=l.length:=⟨_,rfl⟩
  rw[←hn] at h15 ⊢ hc
  clear hlt hcell ha hn
  go_enter Tryz.func128,Tryz.ntmps128
  go_wp2
  go_ret2
  exact ⟨by rw[hR.out];rfl,grown_refl _ _⟩
end Go.Proofs.YtndkifkhdollgaaGreatDoor
