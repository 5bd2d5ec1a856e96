import Derived.Test.YtjjbkpjjmbfdhaaGreatDoorZb00
import Derived.Test.YtjjbkpjjmbfdhaaGreatDoorZb09
import Derived.Test.YtjjbkpjjmbfdhaaGreatDoorZb11
import Derived.Test.YtjjbkpjjmbfdhaaGreatDoorZb14
import Derived.Laws.Rows
import Derived.Laws.Tables
import Derived.OrdersHeld
import Derived.Deep.RegionHeld3
set_option linter.unusedVariables false
set_option linter.unusedSimpArgs false
set_option maxRecDepth 100000
set_option maxHeartbeats 2000000
namespace Go.Proofs.YtjjbkpjjmbfdhaaGreatDoor
open Lib (hid)
open Go.RowKit
abbrev dateCells (Y M D h mi s:Nat):Array Value:=#[.int .i64 (Y:Int),.int .i64 (M:Int),.int .i64 (D:Int),.int .i64 (h:Int),.int .i64 (mi:Int),.int .i64 (s:Int)]
structure OfS (w w':World) (Y M D h mi s:Nat):Prop where
 grown:w.grownBy w' none
 res:w'.heap[w.heap.size]?=some (.cells #[.int .i64 0,.int .i64 0,.int .i64 0,.int .i64 0,.int .i64 0,.int .i64 0] 189 (0,0))
 blk:w'.heap[w.heap.size+1]?=some (.cells (dateCells Y M D h mi s) 189 (0,0))
theorem OfS.more {w w1 w2:World} {Y M D h mi s:Nat} (o:OfS w w1 Y M D h mi s) (hg:w1.grownBy w2 none):OfS w w2 Y M D h mi s :=
 ⟨grown_trans o.grown hg,(hg.block _ (blk_lt o.res) (by simp)).trans o.res,(hg.block _ (blk_lt o.blk) (by simp)).trans o.blk⟩
theorem OfS.put {w w1:World} {Y M D h mi s:Nat} (o:OfS w w1 Y M D h mi s) (k:Nat) (z:Int) (cs:Array Value) (hc:(dateCells Y M D h mi s).setIfInBounds k (.int .i64 z)=cs) :
  w.grownBy (w1.setCell ⟨w.heap.size+1,k,none⟩ (.int .i64 z)) none∧(w1.setCell ⟨w.heap.size+1,k,none⟩ (.int .i64 z)).heap[w.heap.size]?=some (.cells #[.int .i64 0,.int .i64 0,.int .i64 0,.int .i64 0,.int .i64 0,.int .i64 0] 189 (0,0)) ∧
   (w1.setCell ⟨w.heap.size+1,k,none⟩ (.int .i64 z)).heap[w.heap.size+1]?=some (.cells cs 189 (0,0)):=by
 refine ⟨grown_set o.grown (.inl (by show w.heap.size≤w.heap.size+1;omega)) _,?_,?_⟩
 ·rw[Below.heap_setCell _ _ _ _ (by show _≠w.heap.size+1;omega)];exact o.res
 ·rw[heap_setCell_same w1 (w.heap.size+1) k _ 189 _ o.blk,hc]
theorem OfS.year {w w1:World} {Y M D h mi s:Nat} (o:OfS w w1 Y M D h mi s) (z:Int) (Y':Nat) (hz:z=(Y':Int)):OfS w (w1.setCell ⟨w.heap.size+1,0,none⟩ (.int .i64 z)) Y' M D h mi s:=by
 subst hz;obtain ⟨a,b,c⟩:=o.put 0 (Y':Int) (dateCells Y' M D h mi s) rfl;exact ⟨a,b,c⟩
theorem OfS.month {w w1:World} {Y M D h mi s:Nat} (o:OfS w w1 Y M D h mi s) (z:Int) (M':Nat) (hz:z=(M':Int)):OfS w (w1.setCell ⟨w.heap.size+1,1,none⟩ (.int .i64 z)) Y M' D h mi s:=by
 subst hz;obtain ⟨a,b,c⟩:=o.put 1 (M':Int) (dateCells Y M' D h mi s) rfl;exact ⟨a,b,c⟩
theorem OfS.day {w w1:World} {Y M D h mi s:Nat} (o:OfS w w1 Y M D h mi s) (z:Int) (D':Nat) (hz:z=(D':Int)):OfS w (w1.setCell ⟨w.heap.size+1,2,none⟩ (.int .i64 z)) Y M D' h mi s:=by
 subst hz;obtain ⟨a,b,c⟩:=o.put 2 (D':Int) (dateCells Y M D' h mi s) rfl;exact ⟨a,b,c⟩
theorem of_is {t k m n:Nat} (ht:t≤253402300799) (hk:k<8030) (hm:1≤m∧m≤12) (hn:n<Cal.days (1970+k) m) (h:t/86400=Cal.bef k+Cal.ms (1970+k) (m-1)+n) :
  Cal.of t=⟨1970+k,m,n+1,t/3600%24,t/60%60,t%60⟩:=by
 have hr:Cal.Right ⟨1970+k,m,n+1,t/3600%24,t/60%60,t%60⟩:=⟨⟨by simp only;omega,by simp only;omega⟩,hm,⟨by simp only;omega,by simp only;omega⟩,by simp only;omega,by simp only;omega,by simp only;omega⟩
 have hs:Cal.sec ⟨1970+k,m,n+1,t/3600%24,t/60%60,t%60⟩=t:=by
  unfold Cal.sec Cal.dayOf Cal.clock
  simp only[Nat.add_sub_cancel,Nat.add_sub_cancel_left]
  omega
 have:=Cal.of_sec hr
 rw[hs] at this
 exact this
theorem refOf_any (t:Nat) (ht:t≤253402300799) (w:World):Calls Tryz.prog 132 #[.int .i64 (t:Int)] w fun e w'=>e=.returned (dV (Cal.of t).toI)∧w.grownBy w' none:=by
 have HL:=hid (fun (j:Nat) W=>by
  have:=refLeap_any ((j:Nat):Int) W
  rw[Cal.leapI_nat] at this
  exact this)
 have HDa:=hid (fun (y j:Nat) W=>by
  have:=refDays_any ((y:Nat):Int) ((j:Nat):Int) W
  rw[Cal.daysI_nat] at this
  exact this)
 obtain ⟨hq,hh⟩:∃ h,h=t/3600%24:=⟨_,rfl⟩
 obtain ⟨mq,hmi⟩:∃ h,h=t/60%60:=⟨_,rfl⟩
 obtain ⟨sq,hs⟩:∃ h,h=t%60:=⟨_,rfl⟩
 obtain ⟨n0,hn0⟩:∃ n,n=t/86400:=⟨_,rfl⟩
 have hn0b:n0≤2932896:=by omega
 have HOf:Hid (∀ k m n:Nat,k<8030→(1≤m∧m≤12)→n<Cal.days (1970+k) m→n0=Cal.bef k+Cal.ms (1970+k) (m-1)+n→Cal.of t=⟨1970+k,m,n+1,hq,mq,sq⟩):=hid (fun k m n hk hm hn he=>by
  rw[hh,hmi,hs];exact of_is ht hk hm hn (by rw[←hn0];exact he))
 have F0:Hid (OfS w ((w.alloc (.cells #[.int .i64 0,.int .i64 0,.int .i64 0,.int .i64 0,.int .i64 0,.int .i64 0] 189)).alloc (.cells #[.int .i64 1970,.int .i64 1,.int .i64 0,.int .i64 ((t:Int)/3600%24),.int .i64 ((t:Int)/60%60),.int .i64 ((t:Int)%60)] 189)) 1970 1 0 hq mq sq):=hid (by
  refine ⟨grown_alloc (World.grownBy_alloc _ _ _) _,(Below.heap_alloc _ _ _ (by simp)).trans (alloc_at w _),?_⟩
  have:=alloc_at (w.alloc (.cells #[.int .i64 0,.int .i64 0,.int .i64 0,.int .i64 0,.int .i64 0,.int .i64 0] 189)) (.cells #[.int .i64 1970,.int .i64 1,.int .i64 0,.int .i64 ((t:Int)/3600%24),.int .i64 ((t:Int)/60%60),.int .i64 ((t:Int)%60)] 189)
  rw[World.size_alloc] at this
  rw[this,hh,hmi,hs]
  rfl)
 have hq:((t:Int)/86400)=((n0:Nat):Int):=by omega
 have HBe:Hid (∀ k,Cal.bef (k+1)=Cal.bef k+Cal.yearLen (1970+k)):=hid (fun k=>rfl)
 have HB8:=hid Cal.bef_8030
 have HBm:=hid (fun a b h=>Cal.bef_mono (a:=a) (b:=b) h)
 clear hh hmi hs hn0
 go_enter Tryz.func132,Tryz.ntmps132
 go_wp2
 clear hq
 go_loopw [4] (fun x wr=>∃ k n:Nat,k<8030∧x=.int .i64 ((n:Nat):Int)∧n0=Cal.bef k+n∧OfS w wr (1970+k) 1 0 hq mq sq) (fun x _=>(intOf x).toNat)
 case atStart=>exact ⟨0,n0,by omega,rfl,by simp[Cal.bef],F0.out⟩
 case round =>
  obtain ⟨k,n,hk,rfl,hn,ho⟩:=hrel
  have HO:=hid ho
  have b0:=cell_blk ho.blk 0 rfl
  have b1:=free_blk ho.blk 0
  obtain ⟨y,hy⟩:∃ y,y=1970+k:=⟨_,rfl⟩
  rw[←hy] at b0 HO
  have HY:=hid hy
  have HLy:=hid (HL.out y)
  have hnb:n≤2932896:=by omega
  have HN:=hid hn
  have hyb:y≤10000:=by omega
  clear ho hn
  have HYl:Hid (Cal.yearLen y=if Cal.leap y=true then 366 else 365):=hid rfl
  obtain ⟨L,hL⟩:∃ L,L=Cal.yearLen y:=⟨_,rfl⟩
  have HL2:Hid (Cal.bef (k+1)=Cal.bef k+L):=hid (by rw[HBe.out,hL,hy])
  have HLL:=hid hL
  clear hy hL
  cases hl:Cal.leap y with
  |true =>
   rw[hl] at HLy
   have HL6:Hid (L=366):=hid (by rw[HLL.out,HYl.out,hl];rfl)
   clear hl
   by_cases hlt:n<366
   ·have HK:=hid hk
    go_wp2_with (go_at_call 168;refine (HLy.out _).mono ?_;rintro e w1 ⟨rfl,hw⟩;have hw2:=hw.symm;subst hw2;clear hw)
    have HN1:Hid (n+Cal.ms y 0<Cal.yearLen y):=hid (by rw[←HLL.out,HL6.out];exact hlt)
    have HN0:Hid (n0=Cal.bef k+Cal.ms y 0+n):=hid (by rw[HN.out];rfl)
    simp only[decide_eq_true (show (n:Int)<366 by omega)]
    clear b0 b1 hlt
    go_loopw [4] (fun x wr=>∃ m n:Nat,m<12∧x=.int .i64 ((n:Nat):Int)∧n≤400∧n+Cal.ms y m<Cal.yearLen y∧n0=Cal.bef k+Cal.ms y m+n∧OfS w wr y (m+1) 0 hq mq sq) (fun x _=>(intOf x).toNat)
    case atStart=>exact ⟨0,n,by omega,rfl,by have:=HN1.out;have:=(Cal.yearLen_le y).2;omega,HN1.out,HN0.out,HO.out⟩
    case round =>
     obtain ⟨m,n,hm,rfl,hn4,hny,hn,ho⟩:=hrel
     have HO:=hid ho
     have HMS:Hid (Cal.ms y (m+1)=Cal.ms y m+Cal.days y (m+1)):=hid rfl
     have HM12:=hid (Cal.ms12 y)
     have HNy:=hid hny
     have HN:=hid hn
     obtain ⟨M,hM⟩:∃ M,M=m+1:=⟨_,rfl⟩
     rw[←hM] at HO HMS
     have HM:=hid hM
     have p0:=cell_blk HO.out.blk 0 rfl
     have p1:=cell_blk HO.out.blk 1 rfl
     have hdp:=Cal.days_pos (y:=y) (m:=M) (by omega) (by omega)
     have HDy:=hid (fun W=>HDa.out y M W)
     have hM12:M≤12:=by omega
     obtain ⟨dd,hdd⟩:∃ dd,dd=Cal.days y M:=⟨_,rfl⟩
     rw[←hdd] at hdp HDy HMS
     have HDD:=hid hdd
     clear ho hny hn hM hdd
     by_cases hnd:n<dd
     ·have HEnd:=hid (HOf.out k M n HK.out ⟨by have:=HM.out;omega,hM12⟩ (by rw[←HY.out,←HDD.out];exact hnd) (by rw[←HY.out,HN.out,HM.out,Nat.add_sub_cancel]))
      obtain ⟨DC,hDC⟩:∃ DC,DC=dateCells y M (n+1) hq mq sq:=⟨_,rfl⟩
      have HDC:=hid hDC
      have HDs:Hid (DC.size=6∧DC.all (·.oneCell')=true):=hid (by rw[hDC];exact ⟨rfl,by simp[Value.oneCell']⟩)
      clear hDC
      have HInf:Hid ((Tryz.prog.info? 189).map (·.size)=some 6):=hid (by kernel_rfl)
      go_wp2_with (first
       |(go_at_call 169;refine (HDy.out _).mono ?_;rintro e w4 ⟨rfl,hg4⟩;have HO4:=hid (HO.out.more hg4);have x2:=cell_blk HO4.out.blk 2 rfl;have x3:=free_blk HO4.out.blk 2;have HO5:=hid (HO4.out.day ((n:Int)+1) (n+1) (by omega));have HBk:=hid HO5.out.blk;rw[←HDC.out] at HBk;clear hg4 HO)
       |(refine wpList_load_row (by rfl) 189 (.tmp 3) (by rfl) (w.heap.size+1) (by rfl) _ DC (0,0) _ HBk.out Tryz.underlying189 (by rfl) (by rw[HDs.out.1];exact HInf.out) ?_)
       |(refine wpList_store_row (by rfl) 189 (.tmp 2) (.tmp 51) (by rfl) w.heap.size DC (by rfl) (by rfl) _ _ HO5.out.res (by rw[HDs.out.1];exact HInf.out) (by rw[HDs.out.1];rfl) HDs.out.2 ?_))
      refine bodyPost_ret (v:=.agg DC) ?_ rfl ⟨?_,grown_setRow HO5.out.grown (Nat.le_refl _) _⟩
      ·exact results_cell_row Tryz.results132 _ _ w.heap.size _ _ (0,0) _ rfl (setRow_heap _ _ _ DC _ _ HO5.out.res) Tryz.underlying189 rfl (by rw[HDs.out.1];exact HInf.out)
      ·rw[HEnd.out,HDC.out,HY.out];rfl
     ·have hm11:m+1<12:=by
       rcases Nat.lt_or_ge (m+1) 12 with h1|h1
       ·exact h1
       ·have e:=HM.out
        have e12:M=12:=by omega
        have e1:=HMS.out
        have e2:=HM12.out
        have e3:=HNy.out
        rw[e12,e2] at e1
        omega
      go_wp2_with (first
       |(go_at_call 169;refine (HDy.out _).mono ?_;rintro e w4 ⟨rfl,hg4⟩;have HO4:=hid (HO.out.more hg4);have x0:=cell_blk HO4.out.blk 0 rfl;have x1:=cell_blk HO4.out.blk 1 rfl;clear hg4 HO)
       |(go_at_call 169;refine (HDy.out _).mono ?_;rintro e w5 ⟨rfl,hg5⟩;have HO5:=hid (HO4.out.more hg5);have z1:=cell_blk HO5.out.blk 1 rfl;have z3:=free_blk HO5.out.blk 1;clear hg5 HO4))
      go_roundw
      case rel=>exact ⟨M,n-dd,by have:=HM.out;omega,by go_num,by omega,by have:=HMS.out;have:=HNy.out;omega,by rw[HN.out,HMS.out];omega,HO5.out.month _ (M+1) (by omega)⟩
      case measure=>simp[intOf];omega
   ·have hk1:k+1<8030:=by
     rcases Nat.lt_or_ge (k+1) 8030 with h1|h1
     ·exact h1
     ·have e:k+1=8030:=by omega
      have e1:=HL2.out
      have e2:=HB8.out
      have e3:=HN.out
      have e4:=HL6.out
      rw[e,e2] at e1
      omega
    go_wp2_with (go_at_call 168;refine (HLy.out _).mono ?_;rintro e w1 ⟨rfl,hw⟩;have hw2:=hw.symm;subst hw2;clear hw)
    go_roundw
    case rel=>exact ⟨k+1,n-366,hk1,by go_num,by rw[HL2.out,HN.out,HL6.out];omega,HO.out.year _ (1970+(k+1)) (by have:=HY.out;omega)⟩
    case measure=>simp[intOf];omega
  |false =>
   rw[hl] at HLy
   have HL6:Hid (L=365):=hid (by rw[HLL.out,HYl.out,hl];rfl)
   clear hl
   by_cases hlt:n<365
   ·have HK:=hid hk
    go_wp2_with (go_at_call 168;refine (HLy.out _).mono ?_;rintro e w1 ⟨rfl,hw⟩;have hw2:=hw.symm;subst hw2;clear hw)
    have HN1:Hid (n+Cal.ms y 0<Cal.yearLen y):=hid (by rw[←HLL.out,HL6.out];exact hlt)
    have HN0:Hid (n0=Cal.bef k+Cal.ms y 0+n):=hid (by rw[HN.out];rfl)
    simp only[decide_eq_true (show (n:Int)<365 by omega)]
    clear b0 b1 hlt
    go_loopw [4] (fun x wr=>∃ m n:Nat,m<12∧x=.int .i64 ((n:Nat):Int)∧n≤400∧n+Cal.ms y m<Cal.yearLen y∧n0=Cal.bef k+Cal.ms y m+n∧OfS w wr y (m+1) 0 hq mq sq) (fun x _=>(intOf x).toNat)
    case atStart=>exact ⟨0,n,by omega,rfl,by have:=HN1.out;have:=(Cal.yearLen_le y).2;omega,HN1.out,HN0.out,HO.out⟩
    case round =>
     obtain ⟨m,n,hm,rfl,hn4,hny,hn,ho⟩:=hrel
     have HO:=hid ho
     have HMS:Hid (Cal.ms y (m+1)=Cal.ms y m+Cal.days y (m+1)):=hid rfl
     have HM12:=hid (Cal.ms12 y)
     have HNy:=hid hny
     have HN:=hid hn
     obtain ⟨M,hM⟩:∃ M,M=m+1:=⟨_,rfl⟩
     rw[←hM] at HO HMS
     have HM:=hid hM
     have p0:=cell_blk HO.out.blk 0 rfl
     have p1:=cell_blk HO.out.blk 1 rfl
     have hdp:=Cal.days_pos (y:=y) (m:=M) (by omega) (by omega)
     have HDy:=hid (fun W=>HDa.out y M W)
     have hM12:M≤12:=by omega
     obtain ⟨dd,hdd⟩:∃ dd,dd=Cal.days y M:=⟨_,rfl⟩
     rw[←hdd] at hdp HDy HMS
     have HDD:=hid hdd
     clear ho hny hn hM hdd
     by_cases hnd:n<dd
     ·have HEnd:=hid (HOf.out k M n HK.out ⟨by have:=HM.out;omega,hM12⟩ (by rw[←HY.out,←HDD.out];exact hnd) (by rw[←HY.out,HN.out,HM.out,Nat.add_sub_cancel]))
      obtain ⟨DC,hDC⟩:∃ DC,DC=dateCells y M (n+1) hq mq sq:=⟨_,rfl⟩
      have HDC:=hid hDC
      have HDs:Hid (DC.size=6∧DC.all (·.oneCell')=true):=hid (by rw[hDC];exact ⟨rfl,by simp[Value.oneCell']⟩)
      clear hDC
      have HInf:Hid ((Tryz.prog.info? 189).map (·.size)=some 6):=hid (by kernel_rfl)
      go_wp2_with (first
       |(go_at_call 169;refine (HDy.out _).mono ?_;rintro e w4 ⟨rfl,hg4⟩;have HO4:=hid (HO.out.more hg4);have x2:=cell_blk HO4.out.blk 2 rfl;have x3:=free_blk HO4.out.blk 2;have HO5:=hid (HO4.out.day ((n:Int)+1) (n+1) (by omega));have HBk:=hid HO5.out.blk;rw[←HDC.out] at HBk;clear hg4 HO)
       |(refine wpList_load_row (by rfl) 189 (.tmp 3) (by rfl) (w.heap.size+1) (by rfl) _ DC (0,0) _ HBk.out Tryz.underlying189 (by rfl) (by rw[HDs.out.1];exact HInf.out) ?_)
       |(refine wpList_store_row (by rfl) 189 (.tmp 2) (.tmp 51) (by rfl) w.heap.size DC (by rfl) (by rfl) _ _ HO5.out.res (by rw[HDs.out.1];exact HInf.out) (by rw[HDs.out.1];rfl) HDs.out.2 ?_))
      refine bodyPost_ret (v:=.agg DC) ?_ rfl ⟨?_,grown_setRow HO5.out.grown (Nat.le_refl _) _⟩
      ·exact results_cell_row Tryz.results132 _ _ w.heap.size _ _ (0,0) _ rfl (setRow_heap _ _ _ DC _ _ HO5.out.res) Tryz.underlying189 rfl (by rw[HDs.out.1];exact HInf.out)
      ·rw[HEnd.out,HDC.out,HY.out];rfl
     ·have hm11:m+1<12:=by
       rcases Nat.lt_or_ge (m+1) 12 with h1|h1
       ·exact h1
       ·have e:=HM.out
        have e12:M=12:=by omega
        have e1:=HMS.out
        have e2:=HM12.out
        have e3:=HNy.out
        rw[e12,e2] at e1
        omega
      go_wp2_with (first
       |(go_at_call 169;refine (HDy.out _).mono ?_;rintro e w4 ⟨rfl,hg4⟩;have HO4:=hid (HO.out.more hg4);have x0:=cell_blk HO4.out.blk 0 rfl;have x1:=cell_blk HO4.out.blk 1 rfl;clear hg4 HO)
       |(go_at_call 169;refine (HDy.out _).mono ?_;rintro e w5 ⟨rfl,hg5⟩;have HO5:=hid (HO4.out.more hg5);have z1:=cell_blk HO5.out.blk 1 rfl;have z3:=free_blk HO5.out.blk 1;clear hg5 HO4))
      go_roundw
      case rel=>exact ⟨M,n-dd,by have:=HM.out;omega,by go_num,by omega,by have:=HMS.out;have:=HNy.out;omega,by rw[HN.out,HMS.out];omega,HO5.out.month _ (M+1) (by omega)⟩
      case measure=>simp[intOf];omega
   ·have hk1:k+1<8030:=by
     rcases Nat.lt_or_ge (k+1) 8030 with h1|h1
     ·exact h1
     ·have e:k+1=8030:=by omega
      have e1:=HL2.out
      have e2:=HB8.out
      have e3:=HN.out
      have e4:=HL6.out
      rw[e,e2] at e1
      omega
    go_wp2_with (go_at_call 168;refine (HLy.out _).mono ?_;rintro e w1 ⟨rfl,hw⟩;have hw2:=hw.symm;subst hw2;clear hw)
    go_roundw
    case rel=>exact ⟨k+1,n-365,hk1,by go_num,by rw[HL2.out,HN.out,HL6.out];omega,HO.out.year _ (1970+(k+1)) (by have:=HY.out;omega)⟩
    case measure=>simp[intOf];omega
namespace Cal
def nums (l:List Nat) (k:Nat):List Int:=(List.range k).map fun j=>((num2 l (2*j):Nat):Int)
end Cal
end Go.Proofs.YtjjbkpjjmbfdhaaGreatDoor
