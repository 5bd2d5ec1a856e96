import Derived.Test.YtndkifkhdollgaaGreatDoorZs08
import Derived.Test.YtndkifkhdollgaaGreatDoorZs12
import Derived.Test.YtndkifkhdollgaaGreatDoorZs13
import Derived.Laws.Rows
import Derived.Laws.Tables
set_option linter.unusedVariables false
set_option linter.unusedSimpArgs false
set_option maxRecDepth 100000
set_option maxHeartbeats 2000000
namespace Go.Proofs.YtndkifkhdollgaaGreatDoor
open Lib (hid)
open Go.RowKit
abbrev dV (d:Cal.DI):Value:=.agg #[.int .i64 d.Y,.int .i64 d.M,.int .i64 d.D,.int .i64 d.h,.int .i64 d.mi,.int .i64 d.s]
def dCells (d:Cal.DI):List Int:=[d.Y,d.M,d.D,d.h,d.mi,d.s]
theorem dCell {w W:World} {b:Nat} {t:TypeId} {fr:Nat×Nat} {d:Cal.DI} (h:w.heap[b]?=some (.cells #[.int .i64 d.Y,.int .i64 d.M,.int .i64 d.D,.int .i64 d.h,.int .i64 d.mi,.int .i64 d.s] t fr)) (hg:w.grownBy W none) :
  ∀ k z,(dCells d)[k]?=some z→W.cell? ⟨b,k,none⟩=some (.int .i64 z):=fun k z hz=>by
 have h2:W.heap[b]?=_:=(hg.block b (blk_lt h) (by simp)).trans h
 refine cell_blk h2 k ?_
 match k,hz with
 |0,hz=>obtain rfl:=Option.some.inj hz;rfl
 |1,hz=>obtain rfl:=Option.some.inj hz;rfl
 |2,hz=>obtain rfl:=Option.some.inj hz;rfl
 |3,hz=>obtain rfl:=Option.some.inj hz;rfl
 |4,hz=>obtain rfl:=Option.some.inj hz;rfl
 |5,hz=>obtain rfl:=Option.some.inj hz;rfl
 |n+6,hz=>cases hz
theorem refDRight_any (d:Cal.DI) (w:World):Calls Tryz.prog 171 #[dV d] w fun e w'=>e=.returned (.bool (Cal.rightI d))∧w.grownBy w' none:=by
 have HD:=hid (fun W=>refDays_any d.Y d.M W)
 obtain ⟨Y,M,D,h,mi,s⟩:=d
 have HR:Hid (Cal.rightI ⟨Y,M,D,h,mi,s⟩=(decide (1970≤Y)&&decide (Y≤9999)&&decide (1≤M)&&decide (M≤12)&&decide (1≤D)&&decide (D≤(Cal.daysI Y M:Nat))&&decide (0≤h)&&decide (h≤23)&&decide (0≤mi)&&decide (mi≤59)&&decide (0≤s)&&decide (s≤59))):=hid rfl
 have HC:=hid (fun W hg=>dCell (W:=W) (d:=⟨Y,M,D,h,mi,s⟩) (alloc_at w (.cells #[.int .i64 Y,.int .i64 M,.int .i64 D,.int .i64 h,.int .i64 mi,.int .i64 s] 182)) hg)
 generalize Cal.daysI Y M=dd at *
 go_enter Tryz.func171,Tryz.ntmps171
 go_wp2
 refine rt_region _ w.heap.size Y M D h mi s dd _ _ _ _ _ _ _ _ _ _ _ _ (w.alloc (.cells #[.int .i64 Y,.int .i64 M,.int .i64 D,.int .i64 h,.int .i64 mi,.int .i64 s] 182)) _ _ rfl rfl (fun W hW=>HC.out W hW) (fun W _=>HD.out W) rfl rfl rfl rfl rfl rfl rfl rfl rfl rfl rfl rfl ⟨rfl,rfl,rfl,Nat.le_refl _,fun _ _ _=>rfl⟩ (fun us w3 hg3=>?_)
 simp only[fill_cons,fill_nil,Act.put,List.setIfInBounds_toArray,List.set_cons_succ,List.set_cons_zero]
 have HG:=hid (grown_trans (World.grownBy_alloc w (.cells #[.int .i64 Y,.int .i64 M,.int .i64 D,.int .i64 h,.int .i64 mi,.int .i64 s] 182) none) hg3)
 rw[←HR.out]
 clear hg3
 go_wp2
 go_ret
 exact ⟨rfl,HG.out⟩
theorem ms_le (y m:Nat):Cal.ms y m≤31*m:=by
 induction m with
 |zero=>exact Nat.le_refl _
 |succ m ih =>
  rw[Cal.ms]
  have:Cal.days y (m+1)≤31:=by rw[←Cal.daysI_nat];exact Cal.daysI_le _ _
  omega
theorem refSeconds_any (d:Cal.Date) (hd:Cal.Right d) (w:World):Calls Tryz.prog 172 #[dV d.toI] w fun e w'=>e=.returned (.int .i64 ((Cal.sec d:Nat):Int))∧w.grownBy w' none:=by
 obtain ⟨Y,M,D,h,mi,s⟩:=d
 obtain ⟨⟨y1,y2⟩,⟨m1,m2⟩,⟨d1,d2⟩,h1,mi1,s1⟩:=hd
 simp only at y1 y2 m1 m2 d1 d2 h1 mi1 s1
 have hd31:=(Cal.days_pos (y:=Y) m1 m2).2
 obtain ⟨k,hk⟩:∃ k,Y=1970+k:=⟨Y-1970,by omega⟩
 have HBe:=hid (fun W=>refBefore_any k (by omega) W)
 have HDa:=hid (fun (j:Nat) W=>by
  have:=refDays_any ((Y:Nat):Int) ((j:Nat):Int) W
  rw[Cal.daysI_nat] at this
  exact this)
 have HU:Hid (Cal.bef k≤2938980):=hid (by have:=Cal.bef_closed k;omega)
 have HMs:Hid (∀ j,Cal.ms Y (j+1)=Cal.ms Y j+Cal.days Y (j+1)):=hid (fun j=>rfl)
 have HMl:=hid (ms_le Y)
 have HDl:Hid (∀ j,Cal.days Y j≤31):=hid (fun j=>by rw[←Cal.daysI_nat];exact Cal.daysI_le _ _)
 have HE:Hid (Cal.sec ⟨Y,M,D,h,mi,s⟩=(((Cal.bef k+(D-1)+Cal.ms Y (M-1))*24+h)*60+mi)*60+s):=hid (by
  unfold Cal.sec Cal.dayOf Cal.clock
  simp only
  rw[show Y-1970=k by omega]
  omega)
 have HC:=hid (fun W hg=>dCell (W:=W) (d:=⟨(Y:Int),(M:Int),(D:Int),(h:Int),(mi:Int),(s:Int)⟩) (alloc_at w (.cells #[.int .i64 (Y:Int),.int .i64 (M:Int),.int .i64 (D:Int),.int .i64 (h:Int),.int .i64 (mi:Int),.int .i64 (s:Int)] 182)) hg)
 obtain ⟨W1,hW1⟩:∃ W1,W1=w.alloc (.cells #[.int .i64 (Y:Int),.int .i64 (M:Int),.int .i64 (D:Int),.int .i64 (h:Int),.int .i64 (mi:Int),.int .i64 (s:Int)] 182):=⟨_,rfl⟩
 have HG1:Hid (w.grownBy W1 none):=hid (by rw[hW1];exact World.grownBy_alloc _ _ _)
 rw[←hW1] at HC
 have HW1:=hid hW1
 have c0:W1.cell? ⟨w.heap.size,0,none⟩=some (.int .i64 (Y:Int)):=HC.out W1 (grown_refl _ _) 0 _ rfl
 have c2:W1.cell? ⟨w.heap.size,2,none⟩=some (.int .i64 (D:Int)):=HC.out W1 (grown_refl _ _) 2 _ rfl
 simp only[Cal.Date.toI]
 generalize Cal.sec ⟨Y,M,D,h,mi,s⟩=SEC at *
 generalize Cal.bef k=b0 at *
 have HYk:=hid hk
 clear y1 hk hW1
 go_enter Tryz.func172,Tryz.ntmps172
 go_wp2
 rw[←HW1.out]
 have hb:=HU.out
 refine wp_region_quiet_tail (fun w'=>∃ n,w'=W1.drewN n) 7 (by kernel_rfl) (by kernel_rfl) ⟨1,rfl⟩ ?_
 simp only[List.take_succ_cons,List.take_zero,List.drop_succ_cons,List.drop_zero]
 iterate 2 (go_big_quiet_step (fail))
 refine wpQuiet_call (by rfl) 200 #[.int .i64 ((Y:Nat):Int)] (.int .i64 (b0:Int)) (fun _=>by simp[go_sem]) (fun w' hw'=>by rw[HYk.out];exact (HBe.out w').mono (fun e w'' h=>⟨h.1,by rw[h.2];exact hw'⟩)) ?_
 simp only[Act.put,List.setIfInBounds_toArray,List.set_cons_succ,List.set_cons_zero]
 repeat (go_big_quiet_step (fail))
 refine wpQuiet_nil ?_
 rintro _ ⟨n3,rfl⟩
 obtain ⟨W2,hW2⟩:∃ W2,W2=W1.drewN n3:=⟨_,rfl⟩
 have HG2:Hid (W1.grownBy W2 none):=hid (by rw[hW2];exact grown_drewN (grown_refl _ _) _)
 rw[←hW2]
 clear hW2 c0 c2
 go_wp2
 go_loopw [3,4] (fun n i wr=>∃ j:Nat,j<M∧i=.int .i64 ((j+1:Nat):Int)∧n=.int .i64 ((b0+(D-1)+Cal.ms Y j:Nat):Int)∧W1.grownBy wr none) (fun _ i _=>100-(intOf i).toNat)
 case atStart=>exact ⟨0,by omega,rfl,by simp only[Cal.ms];congr 1;omega,HG2.out⟩
 case round =>
  obtain ⟨j,hj,rfl,rfl,hg⟩:=hrel
  have HG:=hid hg
  have q0:wr.cell? ⟨w.heap.size,0,none⟩=some (.int .i64 (Y:Int)):=HC.out wr hg 0 _ rfl
  have q1:wr.cell? ⟨w.heap.size,1,none⟩=some (.int .i64 (M:Int)):=HC.out wr hg 1 _ rfl
  have q3:wr.cell? ⟨w.heap.size,3,none⟩=some (.int .i64 (h:Int)):=HC.out wr hg 3 _ rfl
  have q4:wr.cell? ⟨w.heap.size,4,none⟩=some (.int .i64 (mi:Int)):=HC.out wr hg 4 _ rfl
  have q5:wr.cell? ⟨w.heap.size,5,none⟩=some (.int .i64 (s:Int)):=HC.out wr hg 5 _ rfl
  have hml:=HMl.out j
  have hms:=HMs.out j
  have hdl:=HDl.out (j+1)
  clear hg
  obtain ⟨i,hi⟩:∃ i,i=j+1:=⟨_,rfl⟩
  rw[←hi] at hdl hms ⊢
  have HI:=hid hi
  have HDi:=hid (HDa.out i)
  generalize Cal.days Y i=dy at *
  obtain ⟨a,ha⟩:∃ a,a=b0+(D-1)+Cal.ms Y j:=⟨_,rfl⟩
  have hal:a≤3000000:=by omega
  have HA:=hid ha
  have HMs2:=hid hms
  rw[←ha]
  clear hi ha hms hml
  by_cases hjM:i<M
  ·clear q3 q4 q5
   go_wp2_with (go_at_call 177;refine (HDi.out _).mono ?_;rintro e w4 ⟨rfl,hg4⟩;have HG4:=hid (grown_trans HG.out hg4);clear hg4)
   go_roundw
   case rel=>exact ⟨i,by omega,by go_num,by rw[HMs2.out,←Nat.add_assoc,←HA.out];go_num,HG4.out⟩
   case measure=>simp[intOf];omega
  ·have hMj:j=M-1:=by have:=HI.out;omega
   have HE2:Hid (SEC=((a*24+h)*60+mi)*60+s):=hid (by rw[HE.out,HA.out,hMj])
   clear q0 hMj
   go_wp2
   go_ret
   exact ⟨retI2 (by rw[HE2.out];omega),grown_trans HG1.out HG.out⟩
abbrev dateCells (Y M D h mi s:Nat):Array Value:=#[.int .i64 (Y:Int),.int .i64 (M:Int),.int .i64 (D:Int),.int .i64 (h:Int),.int .i64 (mi:Int),.int .i64 (s:Int)]
structure OfS (w w':World) (Y M D h mi s:Nat):Prop where
 grown:w.grownBy w' none
 res:w'.heap[w.heap.size]?=some (.cells #[.int .i64 0,.int .i64 0,.int .i64 0,.int .i64 0,.int .i64 0,.int .i64 0] 182 (0,0))
 blk:w'.heap[w.heap.size+1]?=some (.cells (dateCells Y M D h mi s) 182 (0,0))
theorem OfS.more {w w1 w2:World} {Y M D h mi s:Nat} (o:OfS w w1 Y M D h mi s) (hg:w1.grownBy w2 none):OfS w w2 Y M D h mi s :=
 ⟨grown_trans o.grown hg,(hg.block _ (blk_lt o.res) (by simp)).trans o.res,(hg.block _ (blk_lt o.blk) (by simp)).trans o.blk⟩
theorem OfS.put {w w1:World} {Y M D h mi s:Nat} (o:OfS w w1 Y M D h mi s) (k:Nat) (z:Int) (cs:Array Value) (hc:(dateCells Y M D h mi s).setIfInBounds k (.int .i64 z)=cs) :
  w.grownBy (w1.setCell ⟨w.heap.size+1,k,none⟩ (.int .i64 z)) none∧(w1.setCell ⟨w.heap.size+1,k,none⟩ (.int .i64 z)).heap[w.heap.size]?=some (.cells #[.int .i64 0,.int .i64 0,.int .i64 0,.int .i64 0,.int .i64 0,.int .i64 0] 182 (0,0)) ∧
   (w1.setCell ⟨w.heap.size+1,k,none⟩ (.int .i64 z)).heap[w.heap.size+1]?=some (.cells cs 182 (0,0)):=by
 refine ⟨grown_set o.grown (.inl (by show w.heap.size≤w.heap.size+1;omega)) _,?_,?_⟩
 ·rw[Below.heap_setCell _ _ _ _ (by show _≠w.heap.size+1;omega)];exact o.res
 ·rw[heap_setCell_same w1 (w.heap.size+1) k _ 182 _ o.blk,hc]
theorem OfS.year {w w1:World} {Y M D h mi s:Nat} (o:OfS w w1 Y M D h mi s) (z:Int) (Y':Nat) (hz:z=(Y':Int)):OfS w (w1.setCell ⟨w.heap.size+1,0,none⟩ (.int .i64 z)) Y' M D h mi s:=by
 subst hz;obtain ⟨a,b,c⟩:=o.put 0 (Y':Int) (dateCells Y' M D h mi s) rfl;exact ⟨a,b,c⟩
theorem OfS.month {w w1:World} {Y M D h mi s:Nat} (o:OfS w w1 Y M D h mi s) (z:Int) (M':Nat) (hz:z=(M':Int)):OfS w (w1.setCell ⟨w.heap.size+1,1,none⟩ (.int .i64 z)) Y M' D h mi s:=by
 subst hz;obtain ⟨a,b,c⟩:=o.put 1 (M':Int) (dateCells Y M' D h mi s) rfl;exact ⟨a,b,c⟩
theorem OfS.day {w w1:World} {Y M D h mi s:Nat} (o:OfS w w1 Y M D h mi s) (z:Int) (D':Nat) (hz:z=(D':Int)):OfS w (w1.setCell ⟨w.heap.size+1,2,none⟩ (.int .i64 z)) Y M D' h mi s:=by
 subst hz;obtain ⟨a,b,c⟩:=o.put 2 (D':Int) (dateCells Y M D' h mi s) rfl;exact ⟨a,b,c⟩
theorem of_is {t k m n:Nat} (ht:t≤253402300799) (hk:k<8030) (hm:1≤m∧m≤12) (hn:n<Cal.days (1970+k) m) (h:t/86400=Cal.bef k+Cal.ms (1970+k) (m-1)+n) :
  Cal.of t=⟨1970+k,m,n+1,t/3600%24,t/60%60,t%60⟩:=by
 have hr:Cal.Right ⟨1970+k,m,n+1,t/3600%24,t/60%60,t%60⟩:=⟨⟨by simp only;omega,by simp only;omega⟩,hm,⟨by simp only;omega,by simp only;omega⟩,by simp only;omega,by simp only;omega,by simp only;omega⟩
 have hs:Cal.sec ⟨1970+k,m,n+1,t/3600%24,t/60%60,t%60⟩=t:=by
  unfold Cal.sec Cal.dayOf Cal.clock
  simp only[Nat.add_sub_cancel,Nat.add_sub_cancel_left]
  omega
 have:=Cal.of_sec hr
 rw[hs] at this
 exact this
theorem refOf_any (t:Nat) (ht:t≤253402300799) (w:World):Calls Tryz.prog 135 #[.int .i64 (t:Int)] w fun e w'=>e=.returned (dV (Cal.of t).toI)∧w.grownBy w' none:=by
 have HL:=hid (fun (j:Nat) W=>by
  have:=refLeap_any ((j:Nat):Int) W
  rw[Cal.leapI_nat] at this
  exact this)
 have HDa:=hid (fun (y j:Nat) W=>by
  have:=refDays_any ((y:Nat):Int) ((j:Nat):Int) W
  rw[Cal.daysI_nat] at this
  exact this)
 obtain ⟨hq,hh⟩:∃ h,h=t/3600%24:=⟨_,rfl⟩
 obtain ⟨mq,hmi⟩:∃ h,h=t/60%60:=⟨_,rfl⟩
 obtain ⟨sq,hs⟩:∃ h,h=t%60:=⟨_,rfl⟩
 obtain ⟨n0,hn0⟩:∃ n,n=t/86400:=⟨_,rfl⟩
 have hn0b:n0≤2932896:=by omega
 have HOf:Hid (∀ k m n:Nat,k<8030→(1≤m∧m≤12)→n<Cal.days (1970+k) m→n0=Cal.bef k+Cal.ms (1970+k) (m-1)+n→Cal.of t=⟨1970+k,m,n+1,hq,mq,sq⟩):=hid (fun k m n hk hm hn he=>by
  rw[hh,hmi,hs];exact of_is ht hk hm hn (by rw[←hn0];exact he))
 have F0:Hid (OfS w ((w.alloc (.cells #[.int .i64 0,.int .i64 0,.int .i64 0,.int .i64 0,.int .i64 0,.int .i64 0] 182)).alloc (.cells #[.int .i64 1970,.int .i64 1,.int .i64 0,.int .i64 ((t:Int)/3600%24),.int .i64 ((t:Int)/60%60),.int .i64 ((t:Int)%60)] 182)) 1970 1 0 hq mq sq):=hid (by
  refine ⟨grown_alloc (World.grownBy_alloc _ _ _) _,(Below.heap_alloc _ _ _ (by simp)).trans (alloc_at w _),?_⟩
  have:=alloc_at (w.alloc (.cells #[.int .i64 0,.int .i64 0,.int .i64 0,.int .i64 0,.int .i64 0,.int .i64 0] 182)) (.cells #[.int .i64 1970,.int .i64 1,.int .i64 0,.int .i64 ((t:Int)/3600%24),.int .i64 ((t:Int)/60%60),.int .i64 ((t:Int)%60)] 182)
  rw[World.size_alloc] at this
  rw[this,hh,hmi,hs]
  rfl)
 have hq:((t:Int)/86400)=((n0:Nat):Int):=by omega
 have HBe:Hid (∀ k,Cal.bef (k+1)=Cal.bef k+Cal.yearLen (1970+k)):=hid (fun k=>rfl)
 have HB8:=hid Cal.bef_8030
 have HBm:=hid (fun a b h=>Cal.bef_mono (a:=a) (b:=b) h)
 clear hh hmi hs hn0
 go_enter Tryz.func135,Tryz.ntmps135
 go_wp2
 clear hq
 go_loopw [4] (fun x wr=>∃ k n:Nat,k<8030∧x=.int .i64 ((n:Nat):Int)∧n0=Cal.bef k+n∧OfS w wr (1970+k) 1 0 hq mq sq) (fun x _=>(intOf x).toNat)
 case atStart=>exact ⟨0,n0,by omega,rfl,by simp[Cal.bef],F0.out⟩
 case round =>
  obtain ⟨k,n,hk,rfl,hn,ho⟩:=hrel
  have HO:=hid ho
  have b0:=cell_blk ho.blk 0 rfl
  have b1:=free_blk ho.blk 0
  obtain ⟨y,hy⟩:∃ y,y=1970+k:=⟨_,rfl⟩
  rw[←hy] at b0 HO
  have HY:=hid hy
  have HLy:=hid (HL.out y)
  have hnb:n≤2932896:=by omega
  have HN:=hid hn
  have hyb:y≤10000:=by omega
  clear ho hn
  have HYl:Hid (Cal.yearLen y=if Cal.leap y=true then 366 else 365):=hid rfl
  obtain ⟨L,hL⟩:∃ L,L=Cal.yearLen y:=⟨_,rfl⟩
  have HL2:Hid (Cal.bef (k+1)=Cal.bef k+L):=hid (by rw[HBe.out,hL,hy])
  have HLL:=hid hL
  clear hy hL
  cases hl:Cal.leap y with
  |true =>
   rw[hl] at HLy
   have HL6:Hid (L=366):=hid (by rw[HLL.out,HYl.out,hl];rfl)
   clear hl
   by_cases hlt:n<366
   ·have HK:=hid hk
    go_wp2_with (go_at_call 176;refine (HLy.out _).mono ?_;rintro e w1 ⟨rfl,hw⟩;have hw2:=hw.symm;subst hw2;clear hw)
    have HN1:Hid (n+Cal.ms y 0<Cal.yearLen y):=hid (by rw[←HLL.out,HL6.out];exact hlt)
    have HN0:Hid (n0=Cal.bef k+Cal.ms y 0+n):=hid (by rw[HN.out];rfl)
    simp only[decide_eq_true (show (n:Int)<366 by omega)]
    clear b0 b1 hlt
    go_loopw [4] (fun x wr=>∃ m n:Nat,m<12∧x=.int .i64 ((n:Nat):Int)∧n≤400∧n+Cal.ms y m<Cal.yearLen y∧n0=Cal.bef k+Cal.ms y m+n∧OfS w wr y (m+1) 0 hq mq sq) (fun x _=>(intOf x).toNat)
    case atStart=>exact ⟨0,n,by omega,rfl,by have:=HN1.out;have:=(Cal.yearLen_le y).2;omega,HN1.out,HN0.out,HO.out⟩
    case round =>
     obtain ⟨m,n,hm,rfl,hn4,hny,hn,ho⟩:=hrel
     have HO:=hid ho
     have HMS:Hid (Cal.ms y (m+1)=Cal.ms y m+Cal.days y (m+1)):=hid rfl
     have HM12:=hid (Cal.ms12 y)
     have HNy:=hid hny
     have HN:=hid hn
     obtain ⟨M,hM⟩:∃ M,M=m+1:=⟨_,rfl⟩
     rw[←hM] at HO HMS
     have HM:=hid hM
     have p0:=cell_blk HO.out.blk 0 rfl
     have p1:=cell_blk HO.out.blk 1 rfl
     have hdp:=Cal.days_pos (y:=y) (m:=M) (by omega) (by omega)
     have HDy:=hid (fun W=>HDa.out y M W)
     have hM12:M≤12:=by omega
     obtain ⟨dd,hdd⟩:∃ dd,dd=Cal.days y M:=⟨_,rfl⟩
     rw[←hdd] at hdp HDy HMS
     have HDD:=hid hdd
     clear ho hny hn hM hdd
     by_cases hnd:n<dd
     ·have HEnd:=hid (HOf.out k M n HK.out ⟨by have:=HM.out;omega,hM12⟩ (by rw[←HY.out,←HDD.out];exact hnd) (by rw[←HY.out,HN.out,HM.out,Nat.add_sub_cancel]))
      obtain ⟨DC,hDC⟩:∃ DC,DC=dateCells y M (n+1) hq mq sq:=⟨_,rfl⟩
      have HDC:=hid hDC
      have HDs:Hid (DC.size=6∧DC.all (·.oneCell')=true):=hid (by rw[hDC];exact ⟨rfl,by simp[Value.oneCell']⟩)
      clear hDC
      have HInf:Hid ((Tryz.prog.info? 182).map (·.size)=some 6):=hid (by kernel_rfl)
      go_wp2_with (first
       |(go_at_call 177;refine (HDy.out _).mono ?_;rintro e w4 ⟨rfl,hg4⟩;have HO4:=hid (HO.out.more hg4);have x2:=cell_blk HO4.out.blk 2 rfl;have x3:=free_blk HO4.out.blk 2;have HO5:=hid (HO4.out.day ((n:Int)+1) (n+1) (by omega));have HBk:=hid HO5.out.blk;rw[←HDC.out] at HBk;clear hg4 HO)
       |(refine wpList_load_row (by rfl) 182 (.tmp 3) (by rfl) (w.heap.size+1) (by rfl) _ DC (0,0) _ HBk.out Tryz.underlying182 (by rfl) (by rw[HDs.out.1];exact HInf.out) ?_)
       |(refine wpList_store_row (by rfl) 182 (.tmp 2) (.tmp 51) (by rfl) w.heap.size DC (by rfl) (by rfl) _ _ HO5.out.res (by rw[HDs.out.1];exact HInf.out) (by rw[HDs.out.1];rfl) HDs.out.2 ?_))
      refine bodyPost_ret (v:=.agg DC) ?_ rfl ⟨?_,grown_setRow HO5.out.grown (Nat.le_refl _) _⟩
      ·exact results_cell_row Tryz.results135 _ _ w.heap.size _ _ (0,0) _ rfl (setRow_heap _ _ _ DC _ _ HO5.out.res) Tryz.underlying182 rfl (by rw[HDs.out.1];exact HInf.out)
      ·rw[HEnd.out,HDC.out,HY.out];rfl
     ·have hm11:m+1<12:=by
       rcases Nat.lt_or_ge (m+1) 12 with h1|h1
       ·exact h1
       ·have e:=HM.out
        have e12:M=12:=by omega
        have e1:=HMS.out
        have e2:=HM12.out
        have e3:=HNy.out
        rw[e12,e2] at e1
        omega
      go_wp2_with (first
       |(go_at_call 177;refine (HDy.out _).mono ?_;rintro e w4 ⟨rfl,hg4⟩;have HO4:=hid (HO.out.more hg4);have x0:=cell_blk HO4.out.blk 0 rfl;have x1:=cell_blk HO4.out.blk 1 rfl;clear hg4 HO)
       |(go_at_call 177;refine (HDy.out _).mono ?_;rintro e w5 ⟨rfl,hg5⟩;have HO5:=hid (HO4.out.more hg5);have z1:=cell_blk HO5.out.blk 1 rfl;have z3:=free_blk HO5.out.blk 1;clear hg5 HO4))
      go_roundw
      case rel=>exact ⟨M,n-dd,by have:=HM.out;omega,by go_num,by omega,by have:=HMS.out;have:=HNy.out;omega,by rw[HN.out,HMS.out];omega,HO5.out.month _ (M+1) (by omega)⟩
      case measure=>simp[intOf];omega
   ·have hk1:k+1<8030:=by
     rcases Nat.lt_or_ge (k+1) 8030 with h1|h1
     ·exact h1
     ·have e:k+1=8030:=by omega
      have e1:=HL2.out
      have e2:=HB8.out
      have e3:=HN.out
      have e4:=HL6.out
      rw[e,e2] at e1
      omega
    go_wp2_with (go_at_call 176;refine (HLy.out _).mono ?_;rintro e w1 ⟨rfl,hw⟩;have hw2:=hw.symm;subst hw2;clear hw)
    go_roundw
    case rel=>exact ⟨k+1,n-366,hk1,by go_num,by rw[HL2.out,HN.out,HL6.out];omega,HO.out.year _ (1970+(k+1)) (by have:=HY.out;omega)⟩
    case measure=>simp[intOf];omega
  |false =>
   rw[hl] at HLy
   have HL6:Hid (L=365):=hid (by rw[HLL.out,HYl.out,hl];rfl)
   clear hl
   by_cases hlt:n<365
   ·have HK:=hid hk
    go_wp2_with (go_at_call 176;refine (HLy.out _).mono ?_;rintro e w1 ⟨rfl,hw⟩;have hw2:=hw.symm;subst hw2;clear hw)
    have HN1:Hid (n+Cal.ms y 0<Cal.yearLen y):=hid (by rw[←HLL.out,HL6.out];exact hlt)
    have HN0:Hid (n0=Cal.bef k+Cal.ms y 0+n):=hid (by rw[HN.out];rfl)
    simp only[decide_eq_true (show (n:Int)<365 by omega)]
    clear b0 b1 hlt
    go_loopw [4] (fun x wr=>∃ m n:Nat,m<12∧x=.int .i64 ((n:Nat):Int)∧n≤400∧n+Cal.ms y m<Cal.yearLen y∧n0=Cal.bef k+Cal.ms y m+n∧OfS w wr y (m+1) 0 hq mq sq) (fun x _=>(intOf x).toNat)
    case atStart=>exact ⟨0,n,by omega,rfl,by have:=HN1.out;have:=(Cal.yearLen_le y).2;omega,HN1.out,HN0.out,HO.out⟩
    case round =>
     obtain ⟨m,n,hm,rfl,hn4,hny,hn,ho⟩:=hrel
     have HO:=hid ho
     have HMS:Hid (Cal.ms y (m+1)=Cal.ms y m+Cal.days y (m+1)):=hid rfl
     have HM12:=hid (Cal.ms12 y)
     have HNy:=hid hny
     have HN:=hid hn
     obtain ⟨M,hM⟩:∃ M,M=m+1:=⟨_,rfl⟩
     rw[←hM] at HO HMS
     have HM:=hid hM
     have p0:=cell_blk HO.out.blk 0 rfl
     have p1:=cell_blk HO.out.blk 1 rfl
     have hdp:=Cal.days_pos (y:=y) (m:=M) (by omega) (by omega)
     have HDy:=hid (fun W=>HDa.out y M W)
     have hM12:M≤12:=by omega
     obtain ⟨dd,hdd⟩:∃ dd,dd=Cal.days y M:=⟨_,rfl⟩
     rw[←hdd] at hdp HDy HMS
     have HDD:=hid hdd
     clear ho hny hn hM hdd
     by_cases hnd:n<dd
     ·have HEnd:=hid (HOf.out k M n HK.out ⟨by have:=HM.out;omega,hM12⟩ (by rw[←HY.out,←HDD.out];exact hnd) (by rw[←HY.out,HN.out,HM.out,Nat.add_sub_cancel]))
      obtain ⟨DC,hDC⟩:∃ DC,DC=dateCells y M (n+1) hq mq sq:=⟨_,rfl⟩
      have HDC:=hid hDC
      have HDs:Hid (DC.size=6∧DC.all (·.oneCell')=true):=hid (by rw[hDC];exact ⟨rfl,by simp[Value.oneCell']⟩)
      clear hDC
      have HInf:Hid ((Tryz.prog.info? 182).map (·.size)=some 6):=hid (by kernel_rfl)
      go_wp2_with (first
       |(go_at_call 177;refine (HDy.out _).mono ?_;rintro e w4 ⟨rfl,hg4⟩;have HO4:=hid (HO.out.more hg4);have x2:=cell_blk HO4.out.blk 2 rfl;have x3:=free_blk HO4.out.blk 2;have HO5:=hid (HO4.out.day ((n:Int)+1) (n+1) (by omega));have HBk:=hid HO5.out.blk;rw[←HDC.out] at HBk;clear hg4 HO)
       |(refine wpList_load_row (by rfl) 182 (.tmp 3) (by rfl) (w.heap.size+1) (by rfl) _ DC (0,0) _ HBk.out Tryz.underlying182 (by rfl) (by rw[HDs.out.1];exact HInf.out) ?_)
       |(refine wpList_store_row (by rfl) 182 (.tmp 2) (.tmp 51) (by rfl) w.heap.size DC (by rfl) (by rfl) _ _ HO5.out.res (by rw[HDs.out.1];exact HInf.out) (by rw[HDs.out.1];rfl) HDs.out.2 ?_))
      refine bodyPost_ret (v:=.agg DC) ?_ rfl ⟨?_,grown_setRow HO5.out.grown (Nat.le_refl _) _⟩
      ·exact results_cell_row Tryz.results135 _ _ w.heap.size _ _ (0,0) _ rfl (setRow_heap _ _ _ DC _ _ HO5.out.res) Tryz.underlying182 rfl (by rw[HDs.out.1];exact HInf.out)
      ·rw[HEnd.out,HDC.out,HY.out];rfl
     ·have hm11:m+1<12:=by
       rcases Nat.lt_or_ge (m+1) 12 with h1|h1
       ·exact h1
       ·have e:=HM.out
        have e12:M=12:=by omega
        have e1:=HMS.out
        have e2:=HM12.out
        have e3:=HNy.out
        rw[e12,e2] at e1
        omega
      go_wp2_with (first
       |(go_at_call 177;refine (HDy.out _).mono ?_;rintro e w4 ⟨rfl,hg4⟩;have HO4:=hid (HO.out.more hg4);have x0:=cell_blk HO4.out.blk 0 rfl;have x1:=cell_blk HO4.out.blk 1 rfl;clear hg4 HO)
       |(go_at_call 177;refine (HDy.out _).mono ?_;rintro e w5 ⟨rfl,hg5⟩;have HO5:=hid (HO4.out.more hg5);have z1:=cell_blk HO5.out.blk 1 rfl;have z3:=free_blk HO5.out.blk 1;clear hg5 HO4))
      go_roundw
      case rel=>exact ⟨M,n-dd,by have:=HM.out;omega,by go_num,by omega,by have:=HMS.out;have:=HNy.out;omega,by rw[HN.out,HMS.out];omega,HO5.out.month _ (M+1) (by omega)⟩
      case measure=>simp[intOf];omega
   ·have hk1:k+1<8030:=by
     rcases Nat.lt_or_ge (k+1) 8030 with h1|h1
     ·exact h1
     ·have e:k+1=8030:=by omega
      have e1:=HL2.out
      have e2:=HB8.out
      have e3:=HN.out
      have e4:=HL6.out
      rw[e,e2] at e1
      omega
    go_wp2_with (go_at_call 176;refine (HLy.out _).mono ?_;rintro e w1 ⟨rfl,hw⟩;have hw2:=hw.symm;subst hw2;clear hw)
    go_roundw
    case rel=>exact ⟨k+1,n-365,hk1,by go_num,by rw[HL2.out,HN.out,HL6.out];omega,HO.out.year _ (1970+(k+1)) (by have:=HY.out;omega)⟩
    case measure=>simp[intOf];omega
end Go.Proofs.YtndkifkhdollgaaGreatDoor
