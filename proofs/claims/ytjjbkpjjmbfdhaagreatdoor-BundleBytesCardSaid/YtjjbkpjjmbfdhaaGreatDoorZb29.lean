import Derived.Test.YtjjbkpjjmbfdhaaGreatDoorZb02
import Derived.Test.YtjjbkpjjmbfdhaaGreatDoorZb03
import Derived.Test.YtjjbkpjjmbfdhaaGreatDoorZb06
import Derived.Test.YtjjbkpjjmbfdhaaGreatDoorZb13
import Derived.Test.YtjjbkpjjmbfdhaaGreatDoorZb14
import Derived.Test.YtjjbkpjjmbfdhaaGreatDoorZb16
import Derived.Test.YtjjbkpjjmbfdhaaGreatDoorZb17
import Derived.Laws.Rows
import Derived.Laws.Tables
set_option linter.unusedVariables false
set_option linter.unusedSimpArgs false
set_option maxRecDepth 100000
set_option maxHeartbeats 2000000
namespace Go.Proofs.YtjjbkpjjmbfdhaaGreatDoor
open Lib (hid)
open Go.RowKit
def inI (t:Int):Prop:=-9223372036854775808≤t∧t≤9223372036854775807
def isM (t:Int):Prop:=0≤t∧t≤253402300799
instance (t:Int):Decidable (isM t):=by unfold isM;infer_instance
def noDate:Value:=.agg #[.int .i64 0,.int .i64 0,.int .i64 0,.int .i64 0,.int .i64 0,.int .i64 0]
def MoOf (A:Nat→Addr) (w:World):Prop:=∀ (t:Int) (W:World),inI t→w.grownBy W none→Calls Tryz.prog 108 #[.int .i64 t] W fun e w'=>W.grownBy w' none∧e=.returned (.tuple (if isM t then #[dV (Cal.of t.toNat).toI,.nilIface] else #[noDate,errV A 1]))
def MoPut (A:Nat→Addr) (w:World):Prop:=∀ (t:Int) (W:World),inI t→w.grownBy W none→Calls Tryz.prog 66 #[.int .i64 t] W fun e w'=>W.grownBy w' none ∧
 if isM t then ∃ a c,e=.returned (.tuple #[.slice a 15 c,.nilIface])∧Bytes w' (.slice a 15 c) (Cal.text (Cal.of t.toNat)) else ∃ a c,e=.returned (.tuple #[.slice a 0 c,errV A 1])
def MoSec (A:Nat→Addr) (w:World):Prop:=∀ (d:Cal.DI) (W:World),(inI d.Y∧inI d.M∧inI d.D∧inI d.h∧inI d.mi∧inI d.s)→w.grownBy W none→Calls Tryz.prog 123 #[dV d] W fun e w'=>W.grownBy w' none∧e=.returned (.tuple (if Cal.rightI d=true then #[.int .i64 ((Cal.sec d.toD:Nat):Int),.nilIface] else #[.int .i64 0,errV A 1]))
def moGot (A:Nat→Addr):Except Nat Nat→Value
 |.ok n=>.tuple #[.int .i64 (n:Int),.nilIface]
 |.error k=>.tuple #[.int .i64 0,errV A k]
def MoGet (A:Nat→Addr) (w:World):Prop:=∀ (v:Value) (l:List Nat) (W:World),w.grownBy W none→Bytes W v l→l.length≤1000→Calls Tryz.prog 94 #[v] W fun e w'=>W.grownBy w' none∧e=.returned (moGot A (Cal.get l))
def inB (lo hi:Int) (l:List Int):Bool:=l.all fun x=>decide (lo≤x)&&decide (x≤hi)
theorem inB_false {lo hi:Int} {l:List Int} (k:Nat) (hk:k<l.length) (h:l.getD k 0<lo∨hi<l.getD k 0):inB lo hi l=false:=by
 unfold inB
 rw[List.all_eq_false]
 refine ⟨l.getD k 0,?_,?_⟩
 ·rw[List.getD_eq_getElem?_getD,List.getElem?_eq_getElem hk];exact List.getElem_mem hk
 ·simp only[Bool.and_eq_true,decide_eq_true_eq];omega
theorem inB_true {lo hi:Int} {l:List Int} (h:∀ j,j<l.length→lo≤l.getD j 0∧l.getD j 0≤hi):inB lo hi l=true:=by
 unfold inB
 rw[List.all_eq_true]
 intro x hx
 obtain ⟨j,hj,rfl⟩:=List.getElem_of_mem hx
 have:=h j hj
 rw[List.getD_eq_getElem?_getD,List.getElem?_eq_getElem hj] at this
 simpa using this
theorem inB_one (lo hi x:Int):inB lo hi [x]=(decide (lo≤x)&&decide (x≤hi)):=by simp[inB]
theorem inB_two (lo hi x y:Int):inB lo hi [x,y]=((decide (lo≤x)&&decide (x≤hi))&&(decide (lo≤y)&&decide (y≤hi))):=by simp[inB]
theorem mwithin_any (lo hi:Int) (v:Value) (l:List Int) (w:World) (h:Ints w v l) (hl:l.length≤1000000) :
  Calls Tryz.prog 158 #[.int .i64 lo,.int .i64 hi,v] w fun e w'=>e=.returned (.bool (inB lo hi l))∧w'=w:=by
 obtain ⟨a1,g1,o1,c1,rfl,k1,k2,k3⟩:=h
 have K2:=hid k2
 have K3:=hid k3
 have HT:Hid ((∀ j,j<l.length→lo≤l.getD j 0∧l.getD j 0≤hi)→inB lo hi l=true):=hid inB_true
 have HF:Hid (∀ k,k<l.length→l.getD k 0<lo∨hi<l.getD k 0→inB lo hi l=false):=hid (fun k=>inB_false k)
 clear k2 k3
 generalize inB lo hi l=D at *
 obtain ⟨n,hn⟩:∃ n,n=l.length:=⟨_,rfl⟩
 rw[←hn] at K2 K3 hl k1 HT HF ⊢
 clear hn
 go_enter Tryz.func158,Tryz.ntmps158
 go_wp2
 go_loopw [11] (fun i wr=>∃ k:Nat,k≤n∧i=.int .i64 k∧wr=w∧∀ j,j<k→lo≤l.getD j 0∧l.getD j 0≤hi) (fun i _=>n-(intOf i).toNat)
 case atStart=>exact ⟨0,Nat.zero_le _,rfl,rfl,fun j hj=>absurd hj (Nat.not_lt_zero _)⟩
 case round =>
  obtain ⟨k,hk,rfl,rfl,hall⟩:=hrel
  have HAll:=hid hall
  clear hall
  by_cases hlt:k<n
  ·obtain ⟨rfl,_⟩:=K2.out (by omega)
   have f1:=K3.out k hlt
   have HFk:=hid (HF.out k hlt)
   generalize hx:l.getD k 0=x at *
   have HX:=hid hx
   clear hx
   by_cases h1:x<lo
   ·have hD:=hid (HFk.out (.inl h1))
    go_wp2
    go_ret
    exact ⟨retB2 hD.out.symm,rfl⟩
   ·by_cases h2:hi<x
    ·have hD:=hid (HFk.out (.inr h2))
     go_wp2
     go_ret
     exact ⟨retB2 hD.out.symm,rfl⟩
    ·go_wp2
     go_roundw
     case rel=>exact ⟨k+1,by omega,by go_num,trivial,fun j hj=>(by
      rcases Nat.lt_or_ge j k with h|h
      ·exact HAll.out j h
      ·obtain rfl:j=k:=by omega
       rw[HX.out];omega)⟩
     case measure=>simp[intOf];omega
  ·obtain rfl:k=n:=by omega
   have hD:=hid (HT.out HAll.out)
   go_wp2
   go_ret
   exact ⟨retB2 hD.out.symm,rfl⟩
theorem isMoment_any (v:Value) (l:List Int) (w:World) (h:Ints w v l) (hl:l.length≤1000000) :
  Calls Tryz.prog 139 #[v] w fun e w'=>e=.returned (.bool (inB 0 253402300799 l))∧w'=w:=by
 have HW:=hid (mwithin_any 0 253402300799 v l w h hl)
 clear h hl
 generalize inB 0 253402300799 l=D at *
 go_enter Tryz.func139,Tryz.ntmps139
 go_wp2_with (go_at_call 158;refine HW.out.mono ?_;rintro e w1 ⟨rfl,rfl⟩)
 go_ret
 exact ⟨rfl,rfl⟩
theorem ints1 (w:World) (x:Int):Ints (w.alloc (.cells #[.int .i64 x] 3)) (.slice (some ⟨w.heap.size,0,none⟩) 1 1) [x] :=
 Ints.lit (l:=[x]) (alloc_at w (.cells #[.int .i64 x] 3))
theorem ints2 (w:World) (x y:Int):Ints (w.alloc (.cells #[.int .i64 x,.int .i64 y] 3)) (.slice (some ⟨w.heap.size,0,none⟩) 2 2) [x,y] :=
 Ints.lit (l:=[x,y]) (alloc_at w (.cells #[.int .i64 x,.int .i64 y] 3))
theorem mLeap_any (y:Int) (w:World):Calls Tryz.prog 186 #[.int .i64 y] w fun e w'=>e=.returned (.bool (Cal.leapI y))∧w'=w:=by
 have HL:Hid (Cal.leapI y=(decide (y.tmod 400=0)||(decide (y.tmod 4=0)&&decide (y.tmod 100≠0)))):=hid (by
  unfold Cal.leapI
  have e1:=Cal.tmod_zero y 400 (by decide)
  have e2:=Cal.tmod_zero y 4 (by decide)
  have e3:=Cal.tmod_zero y 100 (by decide)
  simp only[←e1,←e2,ne_eq,←e3])
 generalize Cal.leapI y=R at *
 generalize h1:y.tmod 400=a at *
 generalize h2:y.tmod 4=b at *
 generalize h3:y.tmod 100=c at *
 by_cases hb:b=0
 ·subst hb
  by_cases hc:c=0
  ·subst hc
   by_cases ha:a=0
   ·subst ha
    go_enter Tryz.func186,Tryz.ntmps186
    go_wp2
    go_ret
    exact ⟨retB2 (by rw[HL.out];simp),rfl⟩
   ·have ha':(a==0)=false:=beq_eq_false_iff_ne.2 ha
    go_enter Tryz.func186,Tryz.ntmps186
    go_wp2
    go_ret
    exact ⟨retB2 (by rw[HL.out];simp[ha]),rfl⟩
  ·have hc':(c != 0)=true:=by rw[bne,beq_eq_false_iff_ne.2 hc];rfl
   go_enter Tryz.func186,Tryz.ntmps186
   go_wp2
   go_ret
   exact ⟨retB2 (by rw[HL.out];simp[hc]),rfl⟩
 ·have hb':(b==0)=false:=beq_eq_false_iff_ne.2 hb
  by_cases ha:a=0
  ·subst ha
   go_enter Tryz.func186,Tryz.ntmps186
   go_wp2
   go_ret
   exact ⟨retB2 (by rw[HL.out];simp),rfl⟩
  ·have ha':(a==0)=false:=beq_eq_false_iff_ne.2 ha
   go_enter Tryz.func186,Tryz.ntmps186
   go_wp2
   go_ret
   exact ⟨retB2 (by rw[HL.out];simp[ha,hb]),rfl⟩
structure Lens (w:World):Prop where
 at_:∀ k,k<12→w.cell? ⟨31,k,none⟩=some (.int .i64 (monthsL.getD k 0))
theorem Lens.grown {w w':World} (h:Lens w) (hg:w.grownBy w' none):Lens w' :=
 ⟨fun k hk=>(World.cell?_of_block (hg.block _ (World.block_lt_of_cell? w _ (h.at_ k hk)) (by simp))).trans (h.at_ k hk)⟩
theorem mDays_any (y m:Int) (w:World) (hLn:Lens w):Calls Tryz.prog 173 #[.int .i64 y,.int .i64 m] w fun e w'=>e=.returned (.int .i64 ((Cal.daysI y m:Nat):Int))∧w.grownBy w' none:=by
 have HL:=hid (mLeap_any y)
 have HWi:=hid (mwithin_any 1 12 _ [m] _ (ints1 w m) (by simp))
 rw[inB_one] at HWi
 have HG:Hid (w.grownBy (w.alloc (.cells #[.int .i64 m] 3)) none):=hid (World.grownBy_alloc _ _ _)
 have HLn:=hid (hLn.grown HG.out)
 clear hLn
 obtain ⟨w1,hw1⟩:∃ w1,w1=w.alloc (.cells #[.int .i64 m] 3):=⟨_,rfl⟩
 have HW1:=hid hw1
 by_cases h1:1≤m∧m≤12
 ·obtain ⟨h1,h2⟩:=h1
  rw[decide_eq_true h1,decide_eq_true h2] at HWi
  obtain ⟨k,hk⟩:∃ k:Nat,m=(k:Int)+1:=⟨(m-1).toNat,by omega⟩
  have hk12:k<12:=by omega
  have hcell:=HLn.out.at_ k hk12
  by_cases hm2:m=2
  ·by_cases hl:Cal.leapI y=true
   ·have HR:Hid (Cal.daysI y m=29):=hid (by rw[Cal.daysI,if_neg (by omega),if_pos hm2,if_pos hl])
    rw[HR.out]
    rw[hl] at HL
    clear HR hk hl hcell
    subst hm2
    go_enter Tryz.func173,Tryz.ntmps173
    go_wp2_with (first
     |(go_at_call 158;refine HWi.out.mono ?_;rintro e w2 ⟨rfl,rfl⟩)
     |(go_at_call 186;refine (HL.out _).mono ?_;rintro e w2 ⟨rfl,rfl⟩))
    go_ret
    exact ⟨rfl,HG.out⟩
   ·have hlf:Cal.leapI y=false:=by rw[←Bool.not_eq_true];exact hl
    have HR:Hid (Cal.daysI y m=28):=hid (by rw[Cal.daysI,if_neg (by omega),if_pos hm2,if_neg hl])
    rw[HR.out]
    rw[hlf] at HL
    obtain rfl:k=1:=by omega
    clear HR hk hl hlf
    subst hm2
    go_enter Tryz.func173,Tryz.ntmps173
    go_wp2_with (first
     |(go_at_call 158;refine HWi.out.mono ?_;rintro e w2 ⟨rfl,rfl⟩)
     |(go_at_call 186;refine (HL.out _).mono ?_;rintro e w2 ⟨rfl,rfl⟩))
    go_ret
    exact ⟨rfl,HG.out⟩
  ·have hM:=months_at (y:=y) k hk12 (.inl (by omega))
   rw[hM,←hk] at hcell
   generalize Cal.daysI y m=R at *
   subst hk
   have hb:((k:Int)+1==2)=false:=beq_eq_false_iff_ne.2 hm2
   clear hM hm2
   go_enter Tryz.func173,Tryz.ntmps173
   go_wp2_with (first
    |(go_at_call 158;refine HWi.out.mono ?_;rintro e w2 ⟨rfl,rfl⟩)
    |(go_at_call 186;refine (HL.out _).mono ?_;rintro e w2 ⟨rfl,rfl⟩))
   go_ret
   exact ⟨rfl,HG.out⟩
 ·have hf:(decide (1≤m)&&decide (m≤12))=false:=by
   rw[Bool.and_eq_false_iff,decide_eq_false_iff_not,decide_eq_false_iff_not];omega
  rw[hf] at HWi
  have HR:Hid (Cal.daysI y m=0):=hid (by rw[Cal.daysI,if_pos (by omega)])
  rw[HR.out]
  go_enter Tryz.func173,Tryz.ntmps173
  go_wp2_with (first
   |(go_at_call 158;refine HWi.out.mono ?_;rintro e w2 ⟨rfl,rfl⟩)
   |(go_at_call 186;refine (HL.out _).mono ?_;rintro e w2 ⟨rfl,rfl⟩))
  go_ret
  exact ⟨rfl,HG.out⟩
theorem leapsAhead_any (k:Nat) (hk:k≤100000) (w:World):Calls Tryz.prog 185 #[.int .i64 ((1970+k:Nat):Int)] w fun e w'=>e=.returned (.int .i64 (((1969+k)/4+(1969+k)/400-(1969+k)/100:Nat):Int))∧w'=w:=by
 obtain ⟨y,hy⟩:∃ y:Int,y=((1970+k:Nat):Int):=⟨_,rfl⟩
 rw[←hy]
 have h1:1970≤y:=by omega
 have h2:y≤101970:=by omega
 have HY:=hid hy
 clear hy
 go_enter Tryz.func185,Tryz.ntmps185
 go_wp2
 go_ret
 exact ⟨retI2 (by have:=HY.out;omega),rfl⟩
theorem leaps1970 (w:World):Calls Tryz.prog 185 #[.int .i64 1970] w fun e w'=>e=.returned (.int .i64 477)∧w'=w:=by
 have e1:(1970:Int)=((1970+0:Nat):Int):=by omega
 have e2:(((1969+0)/4+(1969+0)/400-(1969+0)/100:Nat):Int)=477:=by omega
 rw[e1,←e2]
 exact leapsAhead_any 0 (by omega) w
theorem daysAhead_any (k:Nat) (hk:k≤100000) (w:World):Calls Tryz.prog 172 #[.int .i64 ((1970+k:Nat):Int)] w fun e w'=>e=.returned (.int .i64 ((Cal.bef k:Nat):Int))∧w'=w:=by
 have HA:=hid (fun W=>leapsAhead_any k hk W)
 have HB:=hid leaps1970
 have HE:=hid (Cal.bef_closed k)
 obtain ⟨y,hy⟩:∃ y:Int,y=((1970+k:Nat):Int):=⟨_,rfl⟩
 obtain ⟨q,hq⟩:∃ q:Nat,q=(1969+k)/4+(1969+k)/400-(1969+k)/100:=⟨_,rfl⟩
 rw[←hy,←hq] at HA
 rw[←hy]
 have h1:1970≤y:=by omega
 have h2:y≤101970:=by omega
 have h3:q≤200000:=by omega
 have HY:=hid hy
 have HQ:=hid hq
 clear hy hq
 go_enter Tryz.func172,Tryz.ntmps172
 go_wp2_with (first
  |(go_at_call 185;with_reducible refine (HA.out _).mono ?_;rintro e w2 ⟨rfl,rfl⟩)
  |(go_at_call 185;with_reducible refine (HB.out _).mono ?_;rintro e w2 ⟨rfl,rfl⟩))
 go_ret
 exact ⟨retI2 (by have:=HY.out;have:=HQ.out;have:=HE.out;omega),rfl⟩
theorem dayOfDate_any (d:Cal.Date) (hd:Cal.Right d) (w:World) (hLn:Lens w):Calls Tryz.prog 160 #[dV d.toI] w fun e w'=>e=.returned (.int .i64 ((Cal.dayOf d:Nat):Int))∧w.grownBy w' none:=by
 obtain ⟨Y,M,D,h,mi,s⟩:=d
 obtain ⟨⟨y1,y2⟩,⟨m1,m2⟩,⟨d1,d2⟩,h1,mi1,s1⟩:=hd
 simp only at y1 y2 m1 m2 d1 d2 h1 mi1 s1
 have hd31:=(Cal.days_pos (y:=Y) m1 m2).2
 obtain ⟨k,hk⟩:∃ k,Y=1970+k:=⟨Y-1970,by omega⟩
 have HBe:=hid (fun W=>daysAhead_any k (by omega) W)
 have HDa:=hid (fun (j:Nat) W (hW:w.grownBy W none)=>by
  have:=mDays_any ((Y:Nat):Int) ((j:Nat):Int) W (hLn.grown hW)
  rw[Cal.daysI_nat] at this
  exact this)
 have HU:Hid (Cal.bef k≤2938980):=hid (by have:=Cal.bef_closed k;omega)
 have HMs:Hid (∀ j,Cal.ms Y (j+1)=Cal.ms Y j+Cal.days Y (j+1)):=hid (fun j=>rfl)
 have HMl:=hid (ms_le Y)
 have HDl:Hid (∀ j,Cal.days Y j≤31):=hid (fun j=>by rw[←Cal.daysI_nat];exact Cal.daysI_le _ _)
 have HE:Hid (Cal.dayOf ⟨Y,M,D,h,mi,s⟩=Cal.bef k+(D-1)+Cal.ms Y (M-1)):=hid (by
  unfold Cal.dayOf
  simp only
  rw[show Y-1970=k by omega]
  omega)
 have HC:=hid (fun W hg=>dCell (W:=W) (d:=⟨(Y:Int),(M:Int),(D:Int),(h:Int),(mi:Int),(s:Int)⟩) (alloc_at w (.cells #[.int .i64 (Y:Int),.int .i64 (M:Int),.int .i64 (D:Int),.int .i64 (h:Int),.int .i64 (mi:Int),.int .i64 (s:Int)] 152)) hg)
 obtain ⟨W1,hW1⟩:∃ W1,W1=w.alloc (.cells #[.int .i64 (Y:Int),.int .i64 (M:Int),.int .i64 (D:Int),.int .i64 (h:Int),.int .i64 (mi:Int),.int .i64 (s:Int)] 152):=⟨_,rfl⟩
 have HG1:Hid (w.grownBy W1 none):=hid (by rw[hW1];exact World.grownBy_alloc _ _ _)
 rw[←hW1] at HC
 have HW1:=hid hW1
 have c0:W1.cell? ⟨w.heap.size,0,none⟩=some (.int .i64 (Y:Int)):=HC.out W1 (grown_refl _ _) 0 _ rfl
 have c2:W1.cell? ⟨w.heap.size,2,none⟩=some (.int .i64 (D:Int)):=HC.out W1 (grown_refl _ _) 2 _ rfl
 simp only[Cal.Date.toI]
 generalize Cal.dayOf ⟨Y,M,D,h,mi,s⟩=SEC at *
 generalize Cal.bef k=b0 at *
 have HYk:=hid hk
 clear y1 hk hW1
 go_enter Tryz.func160,Tryz.ntmps160
 go_wp2
 rw[←HW1.out]
 have hb:=HU.out
 refine wp_region_quiet_tail (fun w'=>∃ n,w'=W1.drewN n) 7 (by kernel_rfl) (by kernel_rfl) ⟨1,rfl⟩ ?_
 simp only[List.take_succ_cons,List.take_zero,List.drop_succ_cons,List.drop_zero]
 iterate 2 (go_big_quiet_step (fail))
 refine wpQuiet_call (by rfl) 172 #[.int .i64 ((Y:Nat):Int)] (.int .i64 (b0:Int)) (fun _=>by simp[go_sem]) (fun w' hw'=>by rw[HYk.out];exact (HBe.out w').mono (fun e w'' h=>⟨h.1,by rw[h.2];exact hw'⟩)) ?_
 simp only[Act.put,List.setIfInBounds_toArray,List.set_cons_succ,List.set_cons_zero]
 repeat (go_big_quiet_step (fail))
 refine wpQuiet_nil ?_
 rintro _ ⟨n3,rfl⟩
 obtain ⟨W2,hW2⟩:∃ W2,W2=W1.drewN n3:=⟨_,rfl⟩
 have HG2:Hid (W1.grownBy W2 none):=hid (by rw[hW2];exact grown_drewN (grown_refl _ _) _)
 rw[←hW2]
 clear hW2 c0 c2
 go_wp2
 go_loopw [3,4] (fun n i wr=>∃ j:Nat,j<M∧i=.int .i64 ((j+1:Nat):Int)∧n=.int .i64 ((b0+(D-1)+Cal.ms Y j:Nat):Int)∧W1.grownBy wr none) (fun _ i _=>100-(intOf i).toNat)
 case atStart=>exact ⟨0,by omega,rfl,by simp only[Cal.ms];congr 1;omega,HG2.out⟩
 case round =>
  obtain ⟨j,hj,rfl,rfl,hg⟩:=hrel
  have HG:=hid hg
  have q0:wr.cell? ⟨w.heap.size,0,none⟩=some (.int .i64 (Y:Int)):=HC.out wr hg 0 _ rfl
  have q1:wr.cell? ⟨w.heap.size,1,none⟩=some (.int .i64 (M:Int)):=HC.out wr hg 1 _ rfl
  have hml:=HMl.out j
  have hms:=HMs.out j
  have hdl:=HDl.out (j+1)
  clear hg
  obtain ⟨i,hi⟩:∃ i,i=j+1:=⟨_,rfl⟩
  rw[←hi] at hdl hms ⊢
  have HI:=hid hi
  have HDi:=hid (HDa.out i)
  generalize Cal.days Y i=dy at *
  obtain ⟨a,ha⟩:∃ a,a=b0+(D-1)+Cal.ms Y j:=⟨_,rfl⟩
  have hal:a≤3000000:=by omega
  have HA:=hid ha
  have HMs2:=hid hms
  rw[←ha]
  clear hi ha hms hml
  by_cases hjM:i<M
  ·go_wp2_with (go_at_call 173;refine (HDi.out _ (grown_trans HG1.out HG.out)).mono ?_;rintro e w4 ⟨rfl,hg4⟩;have HG4:=hid (grown_trans HG.out hg4);clear hg4)
   go_roundw
   case rel=>exact ⟨i,by omega,by go_num,by rw[HMs2.out,←Nat.add_assoc,←HA.out];go_num,HG4.out⟩
   case measure=>simp[intOf];omega
  ·have hMj:j=M-1:=by have:=HI.out;omega
   have HE2:Hid (SEC=a):=hid (by rw[HE.out,HA.out,hMj])
   clear q0 hMj
   go_wp2
   go_ret
   exact ⟨retI2 (by rw[HE2.out]),grown_trans HG1.out HG.out⟩
theorem dateOfDay_any (d:Cal.Date) (hd:Cal.Right d) (w:World) (hLn:Lens w):Calls Tryz.prog 140 #[.int .i64 ((Cal.dayOf d:Nat):Int)] w fun e w'=>e=.returned (dV ⟨(d.Y:Int),(d.M:Int),(d.D:Int),0,0,0⟩)∧w.grownBy w' none:=by
 have hl:=Cal.dayOf_lt hd
 obtain ⟨Y,M,D,h,mi,s⟩:=d
 obtain ⟨⟨y1,y2⟩,⟨m1,m2⟩,⟨d1,d2⟩,h1,mi1,s1⟩:=hd
 simp only at y1 y2 m1 m2 d1 d2 h1 mi1 s1 hl
 obtain ⟨l1,l2,l3,l4⟩:=hl
 have hd31:=(Cal.days_pos (y:=Y) m1 m2).2
 obtain ⟨k,hk⟩:∃ k,Y=1970+k:=⟨Y-1970,by omega⟩
 have e1:Y-1970=k:=by omega
 rw[e1] at l1 l2 l3 l4
 have HBe:=hid (fun (j:Nat) (hj:j≤8031) W=>daysAhead_any j (by omega) W)
 have HDa:=hid (fun (j:Nat) W (hW:w.grownBy W none)=>by
  have:=mDays_any ((Y:Nat):Int) ((j:Nat):Int) W (hLn.grown hW)
  rw[Cal.daysI_nat] at this
  exact this)
 have hE:Cal.dayOf ⟨Y,M,D,h,mi,s⟩=Cal.bef k+(D-1)+Cal.ms Y (M-1):=by
  unfold Cal.dayOf
  simp only
  rw[show Y-1970=k by omega]
  omega
 have hU:∀ j,Cal.bef j≤366*j:=fun j=>by have:=Cal.bef_closed j;omega
 have hbk:Cal.bef (k+1)=Cal.bef k+Cal.yearLen Y:=by rw[Cal.bef,hk]
 obtain ⟨n,hn⟩:∃ n,n=Cal.dayOf ⟨Y,M,D,h,mi,s⟩:=⟨_,rfl⟩
 rw[←hn] at l1 l2 l3 l4 hE ⊢
 have hq:n/366≤k:=by have:=hU (k+1);omega
 have hnb:n≤3000000:=by have:=hU (k+1);omega
 have HYear:Hid (∀ i,i≤k→(Cal.bef (i+1)≤n↔i<k)):=hid (fun i hi=>by
  rcases Nat.lt_or_ge i k with h1|h1
  ·have:=Cal.bef_mono (show i<k by omega)
   rw[show Cal.bef (i+1)=Cal.bef i+Cal.yearLen (1970+i) from rfl]
   omega
  ·obtain rfl:i=k:=by omega
   rw[hbk]
   omega)
 have HMonth:Hid (∀ j,j<M→∀ left,n=Cal.bef k+Cal.ms Y j+left→(Cal.days Y (j+1)≤left↔j+1<M)):=hid (fun j hj left hleft=>by
  rcases Nat.lt_or_ge (j+1) M with h1|h1
  ·have:Cal.ms Y (j+1)≤Cal.ms Y (M-1):=by
    rcases Nat.lt_or_ge (j+1) (M-1) with h2|h2
    ·have:=Cal.ms_mono Y h2;omega
    ·rw[show M-1=j+1 by omega];exact Nat.le_refl _
   rw[Cal.ms] at this
   omega
  ·have hjM:j=M-1:=by omega
   have hm:Cal.ms Y M=Cal.ms Y j+Cal.days Y (j+1):=by rw[show M=j+1 by omega];rfl
   omega)
 have HBb:Hid (∀ j,j≤k+1→Cal.bef j≤3000000):=hid (fun j hj=>by have:=hU j;omega)
 have HDl:Hid (∀ j,Cal.days Y j≤31):=hid (fun j=>by rw[←Cal.daysI_nat];exact Cal.daysI_le _ _)
 have HMs:Hid (∀ j,Cal.ms Y (j+1)=Cal.ms Y j+Cal.days Y (j+1)):=hid (fun j=>rfl)
 have HE:=hid hE
 have HL1:=hid l1
 have HYk:=hid hk
 obtain ⟨W1,hW1⟩:∃ W1,W1=w.alloc (.cells #[.int .i64 0,.int .i64 0,.int .i64 0,.int .i64 0,.int .i64 0,.int .i64 0] 152):=⟨_,rfl⟩
 have HG1:Hid (w.grownBy W1 none):=hid (by rw[hW1];exact World.grownBy_alloc _ _ _)
 have HR1:Hid (W1.heap[w.heap.size]?=some (.cells #[.int .i64 0,.int .i64 0,.int .i64 0,.int .i64 0,.int .i64 0,.int .i64 0] 152 (0,0))):=hid (by rw[hW1];exact alloc_at w _)
 have HW1:=hid hW1
 have hq3:((n:Int)/366)=((n/366:Nat):Int):=by omega
 have HQ3:=hid hq3
 have HQ:=hid hq
 have hk8:k≤8030:=by omega
 have HInf:Hid ((Tryz.prog.info? 152).map (·.size)=some 6):=hid (by kernel_rfl)
 clear hW1 hn hE l1 l2 l3 l4 hU hbk hk e1 hq3 y1 hLn
 go_enter Tryz.func140,Tryz.ntmps140
 go_wp2
 rw[←HW1.out]
 go_loopw [3] (fun y wr=>∃ i:Nat,i≤k∧y=.int .i64 ((1970+i:Nat):Int)∧wr=W1) (fun y _=>20000-(intOf y).toNat)
 case atStart=>exact ⟨n/366,HQ.out,by rw[HQ3.out];go_num,rfl⟩
 case round =>
  obtain ⟨i,hi,rfl,rfl⟩:=hrel
  have hbi:=HBb.out (i+1) (by omega)
  have HBi:=hid (fun W=>HBe.out (i+1) (by omega) W)
  have hyi:=HYear.out i hi
  obtain ⟨y,hy⟩:∃ y:Int,y=((1970+i:Nat):Int):=⟨_,rfl⟩
  rw[show ((1970+(i+1):Nat):Int)=y+1 by omega] at HBi
  rw[←hy]
  generalize Cal.bef (i+1)=b1 at *
  have hyb:1970≤y∧y≤11000:=by omega
  obtain ⟨hyb1,hyb2⟩:=hyb
  have HY:=hid hy
  clear hy
  by_cases hik:i<k
  ·have hc:b1≤n:=hyi.2 hik
   clear hyi
   go_wp2_with (go_at_call 172;refine (HBi.out _).mono ?_;rintro e w2 ⟨rfl,hw⟩;have hw2:=hw.symm;subst hw2;clear hw)
   go_roundw
   case rel=>exact ⟨i+1,by omega,by have:=HY.out;go_num,trivial⟩
   case measure=>simp[intOf];omega
  ·obtain rfl:i=k:=by omega
   have hc:¬ b1≤n:=fun h=>hik (hyi.1 h)
   have HB0:=hid (fun W=>HBe.out i (by omega) W)
   rw[←HY.out] at HB0
   have hb0:=HL1.out
   obtain ⟨b0,hb⟩:∃ b0,b0=Cal.bef i:=⟨_,rfl⟩
   rw[←hb] at HB0 hb0
   have HB:=hid hb
   clear hyi hb hik
   have HYy:Hid (y=(Y:Int)):=hid (by rw[HY.out,←HYk.out])
   have hn0:n≤b0+400:=by
    have e1:=HE.out;have e2:=HMs.out;have e3:=ms_le Y (M-1)
    rw[←HB.out] at e1
    omega
   go_wp2_with (first
    |(go_at_call 172;with_reducible refine (HBi.out _).mono ?_;rintro e w2 ⟨rfl,hw⟩;have hw2:=hw.symm;subst hw2;clear hw)
    |(go_at_call 172;with_reducible refine (HB0.out _).mono ?_;rintro e w2 ⟨rfl,hw⟩;have hw2:=hw.symm;subst hw2;clear hw))
   clear hc hyb1 hyb2 HW1
   rw[HYy.out]
   obtain ⟨wo,hwo⟩:∃ wo:World,wo=wr:=⟨_,rfl⟩
   rw[←hwo] at HG1 HR1 ⊢
   clear hwo
   go_loopw [4,5] (fun m left wr=>∃ j L:Nat,j<M∧m=.int .i64 ((j+1:Nat):Int)∧left=.int .i64 (L:Int)∧L≤400∧n=b0+Cal.ms Y j+L∧wo.grownBy wr none) (fun m _ _=>100-(intOf m).toNat)
   case atStart=>exact ⟨0,n-b0,by omega,rfl,by go_num,by omega,by simp only[Cal.ms];omega,grown_refl _ _⟩
   case round =>
    obtain ⟨j,L,hj,rfl,rfl,hL4,hnj,hg⟩:=hrel
    have HG:=hid hg
    have HNj:=hid hnj
    have hmo:=HMonth.out j hj L (by rw[←HB.out];exact hnj)
    have hdl:=HDl.out (j+1)
    have hms:=HMs.out j
    clear hg hnj
    obtain ⟨m,hm⟩:∃ m,m=j+1:=⟨_,rfl⟩
    rw[←hm] at hmo hdl hms ⊢
    have HM:=hid hm
    have HDi:=hid (HDa.out m)
    generalize Cal.days Y m=dy at *
    have HMs2:=hid hms
    clear hm hms
    by_cases hjM:m<M
    ·have hc:dy≤L:=hmo.2 hjM
     clear hmo
     go_wp2_with (first
      |(go_at_call 173;with_reducible refine (HDi.out _ (grown_trans HG1.out HG.out)).mono ?_;rintro e w4 ⟨rfl,hg4⟩;have HG4:=hid (grown_trans HG.out hg4);clear hg4 HG)
      |(go_at_call 173;with_reducible refine (HDi.out _ (grown_trans HG1.out HG4.out)).mono ?_;rintro e w5 ⟨rfl,hg5⟩;have HG5:=hid (grown_trans HG4.out hg5);clear hg5))
     go_roundw
     case rel=>exact ⟨m,L-dy,hjM,by go_num,by go_num,by omega,by rw[HNj.out,HMs2.out];omega,HG5.out⟩
     case measure=>simp[intOf];omega
    ·have hc:¬ dy≤L:=fun h=>hjM (hmo.1 h)
     have hmM:m=M:=by have:=HM.out;omega
     have hLd:L+1=D:=by
      have e1:=HE.out;have e2:=HNj.out;have e3:=HM.out
      rw[←HB.out] at e1
      rw[show M-1=j by omega] at e1
      omega
     clear hmo
     subst hmM
     have HLd:=hid hLd
     clear hLd
     obtain ⟨DC,hDC⟩:∃ DC:Array Value,DC=#[.int .i64 (Y:Int),.int .i64 (m:Int),.int .i64 ((L:Int)+1),.int .i64 0,.int .i64 0,.int .i64 0]:=⟨_,rfl⟩
     have HDC:=hid hDC
     have HDs:Hid (DC.size=6∧DC.all (·.oneCell')=true):=hid (by rw[hDC];exact ⟨rfl,by simp[Value.oneCell']⟩)
     clear hDC
     go_wp2_with (first
      |(go_at_call 173;with_reducible refine (HDi.out _ (grown_trans HG1.out HG.out)).mono ?_;rintro e w4 ⟨rfl,hg4⟩;have HG4:=hid (grown_trans HG.out hg4);clear hg4 HG;have HR4:=hid ((HG4.out.block _ (blk_lt HR1.out) (by simp)).trans HR1.out))
      |(rw[←HDC.out];refine wpList_store_row (by rfl) 152 (.tmp 2) (.tmp 36) (by rfl) w.heap.size DC (by rfl) (by rfl) _ _ HR4.out (by rw[HDs.out.1];exact HInf.out) (by rw[HDs.out.1];rfl) HDs.out.2 ?_))
     refine bodyPost_ret (v:=.agg DC) ?_ rfl ⟨?_,grown_setRow (grown_trans HG1.out HG4.out) (Nat.le_refl _) _⟩
     ·exact results_cell_row Tryz.results140 _ _ w.heap.size _ _ (0,0) _ rfl (setRow_heap _ _ _ DC _ _ HR4.out) Tryz.underlying152 rfl (by rw[HDs.out.1];exact HInf.out)
     ·rw[HDC.out,←HLd.out];rfl
def isI (l:List Int):Value→World→Prop:=fun x w=>Ints w x l
def isIfI (g b:Bool) (l:List Int):Value→World→Prop:=fun x w=>g=b→Ints w x l
theorem stays_I (l:List Int):Stays (isI l):=fun _ _ _ hg h=>Ints.grown h hg
theorem stays_IfI (g b:Bool) (l:List Int):Stays (isIfI g b l):=fun _ _ _ hg h e=>Ints.grown (h e) hg
theorem eval_const {a:Act} {v:Value}:a.eval (.const v)=v:=rfl
theorem buildI1_val {a:Act} {o:Oper} {w:World} {x:Operand} {n:Int} (ho:o.op=.buildSlice 41 1 #[(0,x)]) (hx:a.eval x=.int .i64 n) :
  (execOp a.eval o).run Tryz.prog w=.ok (.value (.slice (some ⟨w.heap.size,0,none⟩) 1 1)) (w.alloc (.cells #[.int .i64 n] 3)):=build1_val ho hx (by simp[go_sem])
theorem buildI2_val {a:Act} {o:Oper} {w:World} {x y:Operand} {n m:Int} (ho:o.op=.buildSlice 41 2 #[(0,x),(1,y)]) (hx:a.eval x=.int .i64 n) (hy:a.eval y=.int .i64 m) :
  (execOp a.eval o).run Tryz.prog w=.ok (.value (.slice (some ⟨w.heap.size,0,none⟩) 2 2)) (w.alloc (.cells #[.int .i64 n,.int .i64 m] 3)):=by
 have hb:(Instr.buildSlice 41 2 #[(0,.int .i64 n),(1,.int .i64 m)]).run Tryz.prog w=.ok (.slice (some ⟨w.heap.size,0,none⟩) 2 2) (w.alloc (.cells #[.int .i64 n,.int .i64 m] 3)):=by simp[go_sem]
 simp only[execOp,ho,List.map_toArray,List.map_cons,List.map_nil,hx,hy]
 simp[Result.andThen,hb]
theorem within_g (lo hi:Int) {l:List Int} {w:World} {c:Bool} (v:Value) (h:Ints w v l) (hl:l.length≤1000000) (hc:inB lo hi l=c) :
  Calls Tryz.prog 158 #[.int .i64 lo,.int .i64 hi,v] w fun e w'=>e=.returned (.bool c)∧w.grownBy w' none :=
 (mwithin_any lo hi v l w h hl).mono (fun e w' h=>⟨by rw[h.1,hc],by rw[h.2];exact grown_refl _ _⟩)
theorem fieldM (w:World) (B:Nat):∀ (k:Nat) (hk:k<6),(Instr.fieldAt 152 (.pointer (some ⟨B,0,none⟩)) k).run Tryz.prog w=.ok (.pointer (some ⟨B,k,none⟩)) w
 |0,_=>by kernel_rfl
 |1,_=>by kernel_rfl
 |2,_=>by kernel_rfl
 |3,_=>by kernel_rfl
 |4,_=>by kernel_rfl
 |5,_=>by kernel_rfl
 |n+6,h=>absurd h (by omega)
noncomputable def idt_regionC:Code:=regionIn Tryz.f159.body 1
theorem idt_region (a:Act) (B:Nat) (Y M D h mi s:Int) (dd:Nat) (c1 c2 c3 c4:Bool) (W w:World) (Q:Exit→Act→World→Prop) (hsz:a.tmps.size=32)
  (h1:a.eval (.tmp 1)=.pointer (some ⟨B,0,none⟩))
  (hcl:∀ w,W.grownBy w none→∀ k z,[Y,M,D,h,mi,s][k]?=some z→w.cell? ⟨B,k,none⟩=some (.int .i64 z))
  (hDy:∀ w,W.grownBy w none→Calls Tryz.prog 173 #[.int .i64 Y,.int .i64 M] w fun e w'=>e=.returned (.int .i64 ((dd:Nat):Int))∧w.grownBy w' none)
  (hk1:inB 1970 9999 [Y]=c1)
  (hk2:inB 1 ((dd:Nat):Int) [D]=c2)
  (hk3:inB 0 23 [h]=c3)
  (hk4:inB 0 59 [mi,s]=c4)
  (hw:W.grownBy { w with drawn:=w.drawn+1 } none)
  (hQ:∀ us w',W.grownBy w' none→Q .normal ((fill a [3,4,5,6,7,8,9,10,11,12,13,14,15,16,17,18,19,20,21,22,23,24,25,26,27,28,29,30,31] us).put (some 2) (.bool (((c1&&c2)&&c3)&&c4))) w'):idt_regionC.wp Tryz.prog Q a w:=by
 have hst:StaysAll [isV (.pointer (some ⟨B,0,none⟩)),isV (.int .i64 Y),isI ([Y]),isV (.bool c1),isV (.bool c1),isIf (c1) true (.pointer (some ⟨B,0,none⟩)),isIf (c1) true (.int .i64 Y),isIf (c1) true (.pointer (some ⟨B,1,none⟩)),isIf (c1) true (.int .i64 M),isIf (c1) true (.int .i64 ((dd:Nat):Int)),isIf (c1) true (.pointer (some ⟨B,2,none⟩)),isIf (c1) true (.int .i64 D),isIfI (c1) true ([D]),isIf (c1) true (.bool c2),isV (.bool (c1&&c2)),isV (.bool (c1&&c2)),isIf ((c1&&c2)) true (.pointer (some ⟨B,3,none⟩)),isIf ((c1&&c2)) true (.int .i64 h),isIfI ((c1&&c2)) true ([h]),isIf ((c1&&c2)) true (.bool c3),isV (.bool ((c1&&c2)&&c3)),isV (.bool ((c1&&c2)&&c3)),isIf (((c1&&c2)&&c3)) true (.pointer (some ⟨B,4,none⟩)),isIf (((c1&&c2)&&c3)) true (.int .i64 mi),isIf (((c1&&c2)&&c3)) true (.pointer (some ⟨B,5,none⟩)),isIf (((c1&&c2)&&c3)) true (.int .i64 s),isIfI (((c1&&c2)&&c3)) true ([mi,s]),isIf (((c1&&c2)&&c3)) true (.bool c4),isV (.bool (((c1&&c2)&&c3)&&c4))]:=⟨stays_V _,stays_V _,stays_I _,stays_V _,stays_V _,stays_If _ _ _,stays_If _ _ _,stays_If _ _ _,stays_If _ _ _,stays_If _ _ _,stays_If _ _ _,stays_If _ _ _,stays_IfI _ _ _,stays_If _ _ _,stays_V _,stays_V _,stays_If _ _ _,stays_If _ _ _,stays_IfI _ _ _,stays_If _ _ _,stays_V _,stays_V _,stays_If _ _ _,stays_If _ _ _,stays_If _ _ _,stays_If _ _ _,stays_IfI _ _ _,stays_If _ _ _,stays_V _,trivial⟩
 conv=>arg 2;whnf
 refine wp_region_flow 29 [3,4,5,6,7,8,9,10,11,12,13,14,15,16,17,18,19,20,21,22,23,24,25,26,27,28,29,30,31] (fun w'=>W.grownBy w' none) (fun w w'=>w.grownBy w' none) (flF [isV (.pointer (some ⟨B,0,none⟩)),isV (.int .i64 Y),isI ([Y]),isV (.bool c1),isV (.bool c1),isIf (c1) true (.pointer (some ⟨B,0,none⟩)),isIf (c1) true (.int .i64 Y),isIf (c1) true (.pointer (some ⟨B,1,none⟩)),isIf (c1) true (.int .i64 M),isIf (c1) true (.int .i64 ((dd:Nat):Int)),isIf (c1) true (.pointer (some ⟨B,2,none⟩)),isIf (c1) true (.int .i64 D),isIfI (c1) true ([D]),isIf (c1) true (.bool c2),isV (.bool (c1&&c2)),isV (.bool (c1&&c2)),isIf ((c1&&c2)) true (.pointer (some ⟨B,3,none⟩)),isIf ((c1&&c2)) true (.int .i64 h),isIfI ((c1&&c2)) true ([h]),isIf ((c1&&c2)) true (.bool c3),isV (.bool ((c1&&c2)&&c3)),isV (.bool ((c1&&c2)&&c3)),isIf (((c1&&c2)&&c3)) true (.pointer (some ⟨B,4,none⟩)),isIf (((c1&&c2)&&c3)) true (.int .i64 mi),isIf (((c1&&c2)&&c3)) true (.pointer (some ⟨B,5,none⟩)),isIf (((c1&&c2)&&c3)) true (.int .i64 s),isIfI (((c1&&c2)&&c3)) true ([mi,s]),isIf (((c1&&c2)&&c3)) true (.bool c4),isV (.bool (((c1&&c2)&&c3)&&c4))]) (by kernel_rfl) (by kernel_rfl) (fun _ _ h k=>grown_trans k h) (fun j x w w' hg h=>flF_stays hst j x w w' hg h) hw ?_ ?_
 ·refine ⟨?_,?_,?_,?_,?_,?_,?_,?_,?_,?_,?_,?_,?_,?_,?_,?_,?_,?_,?_,?_,?_,?_,?_,?_,?_,?_,?_,?_,?_,trivial⟩
  ·exact flow_step (fun us w hC hd=>wants_free rfl) (fun us w hC hd=>⟨_,w,fieldA_val rfl ((fill_old (by rfl)).trans h1) (fieldM w B 0 (by decide)),grown_refl _ _,rfl⟩)
  ·exact flow_step (fun us w hC hd=>wants_free rfl) (fun us w hC hd=>⟨_,w,loadc_val rfl ((fill_tmp (by rfl) (by rw[hsz];decide)).trans (hd 0 (by decide))) (loadI (hcl w hC 0 Y rfl)),grown_refl _ _,rfl⟩)
  ·exact flow_step (fun us w hC hd=>wants_free rfl) (fun us w hC hd=>⟨_,_,buildI1_val rfl ((fill_tmp (by rfl) (by rw[hsz];decide)).trans (hd 1 (by decide))),World.grownBy_alloc _ _ _,ints1 w _⟩)
  ·refine flow_call 158 (fun us=>#[.int .i64 1970,.int .i64 9999,us 5]) (fun us w hC hd=>wants_free rfl) (fun us w=>by rw[call_enter rfl (fun _ _=>by simp[go_sem]),List.map_toArray,List.map_cons,List.map_cons,List.map_cons,List.map_nil,eval_const,eval_const,fill_tmp (by rfl) (by rw[hsz];decide)]) (fun us w hC' hd=>?_)
   exact (within_g 1970 9999 (us 5) (hd 2 (by decide)) (by simp) hk1).mono (fun e w' h=>⟨_,h.1,h.2,rfl⟩)
  ·exact flow_step (fun us w hC hd=>wants_free rfl) (fun us w hC hd=>⟨_,w,move_val rfl ((fill_tmp (by rfl) (by rw[hsz];decide)).trans (hd 3 (by decide))),grown_refl _ _,rfl⟩)
  ·rcases Bool.eq_false_or_eq_true (c1) with hg|hg
   ·exact flow_step (fun us w hC hd=>wants_on (d:=7) (b:=true) rfl rfl (by rfl) (by rw[hsz];decide) ((hd 4 (by decide)).trans (by rw[hg]))) (fun us w hC hd=>⟨_,w,fieldA_val rfl ((fill_old (by rfl)).trans h1) (fieldM w B 0 (by decide)),grown_refl _ _,fun _=>rfl⟩)
   ·exact flow_skip (fun us w hC hd=>wants_not (d:=7) (b:=true) rfl rfl (by rfl) (by rw[hsz];decide) ((hd 4 (by decide)).trans (by rw[hg];rfl))) (fun _=>grown_refl _ _) (fun _ _ h=>by rw[hg] at h;cases h)
  ·rcases Bool.eq_false_or_eq_true (c1) with hg|hg
   ·exact flow_step (fun us w hC hd=>wants_on (d:=7) (b:=true) rfl rfl (by rfl) (by rw[hsz];decide) ((hd 4 (by decide)).trans (by rw[hg]))) (fun us w hC hd=>⟨_,w,loadc_val rfl ((fill_tmp (by rfl) (by rw[hsz];decide)).trans (hd 5 (by decide) hg)) (loadI (hcl w hC 0 Y rfl)),grown_refl _ _,fun _=>rfl⟩)
   ·exact flow_skip (fun us w hC hd=>wants_not (d:=7) (b:=true) rfl rfl (by rfl) (by rw[hsz];decide) ((hd 4 (by decide)).trans (by rw[hg];rfl))) (fun _=>grown_refl _ _) (fun _ _ h=>by rw[hg] at h;cases h)
  ·rcases Bool.eq_false_or_eq_true (c1) with hg|hg
   ·exact flow_step (fun us w hC hd=>wants_on (d:=7) (b:=true) rfl rfl (by rfl) (by rw[hsz];decide) ((hd 4 (by decide)).trans (by rw[hg]))) (fun us w hC hd=>⟨_,w,fieldA_val rfl ((fill_old (by rfl)).trans h1) (fieldM w B 1 (by decide)),grown_refl _ _,fun _=>rfl⟩)
   ·exact flow_skip (fun us w hC hd=>wants_not (d:=7) (b:=true) rfl rfl (by rfl) (by rw[hsz];decide) ((hd 4 (by decide)).trans (by rw[hg];rfl))) (fun _=>grown_refl _ _) (fun _ _ h=>by rw[hg] at h;cases h)
  ·rcases Bool.eq_false_or_eq_true (c1) with hg|hg
   ·exact flow_step (fun us w hC hd=>wants_on (d:=7) (b:=true) rfl rfl (by rfl) (by rw[hsz];decide) ((hd 4 (by decide)).trans (by rw[hg]))) (fun us w hC hd=>⟨_,w,loadc_val rfl ((fill_tmp (by rfl) (by rw[hsz];decide)).trans (hd 7 (by decide) hg)) (loadI (hcl w hC 1 M rfl)),grown_refl _ _,fun _=>rfl⟩)
   ·exact flow_skip (fun us w hC hd=>wants_not (d:=7) (b:=true) rfl rfl (by rfl) (by rw[hsz];decide) ((hd 4 (by decide)).trans (by rw[hg];rfl))) (fun _=>grown_refl _ _) (fun _ _ h=>by rw[hg] at h;cases h)
  ·rcases Bool.eq_false_or_eq_true (c1) with hg|hg
   ·refine flow_call 173 (fun us=>#[us 9,us 11]) (fun us w hC hd=>wants_on (d:=7) (b:=true) rfl rfl (by rfl) (by rw[hsz];decide) ((hd 4 (by decide)).trans (by rw[hg]))) (fun us w=>by rw[call_enter rfl (fun _ _=>by simp[go_sem]),List.map_toArray,List.map_cons,List.map_cons,List.map_nil,fill_tmp (by rfl) (by rw[hsz];decide),fill_tmp (by rfl) (by rw[hsz];decide)]) (fun us w hC' hd=>?_)
    rw[show us 9=.int .i64 Y from hd 6 (by decide) hg]
    rw[show us 11=.int .i64 M from hd 8 (by decide) hg]
    exact (hDy w hC').mono (fun e w' h=>⟨_,h.1,h.2,fun _=>rfl⟩)
   ·exact flow_skip (fun us w hC hd=>wants_not (d:=7) (b:=true) rfl rfl (by rfl) (by rw[hsz];decide) ((hd 4 (by decide)).trans (by rw[hg];rfl))) (fun _=>grown_refl _ _) (fun _ _ h=>by rw[hg] at h;cases h)
  ·rcases Bool.eq_false_or_eq_true (c1) with hg|hg
   ·exact flow_step (fun us w hC hd=>wants_on (d:=7) (b:=true) rfl rfl (by rfl) (by rw[hsz];decide) ((hd 4 (by decide)).trans (by rw[hg]))) (fun us w hC hd=>⟨_,w,fieldA_val rfl ((fill_old (by rfl)).trans h1) (fieldM w B 2 (by decide)),grown_refl _ _,fun _=>rfl⟩)
   ·exact flow_skip (fun us w hC hd=>wants_not (d:=7) (b:=true) rfl rfl (by rfl) (by rw[hsz];decide) ((hd 4 (by decide)).trans (by rw[hg];rfl))) (fun _=>grown_refl _ _) (fun _ _ h=>by rw[hg] at h;cases h)
  ·rcases Bool.eq_false_or_eq_true (c1) with hg|hg
   ·exact flow_step (fun us w hC hd=>wants_on (d:=7) (b:=true) rfl rfl (by rfl) (by rw[hsz];decide) ((hd 4 (by decide)).trans (by rw[hg]))) (fun us w hC hd=>⟨_,w,loadc_val rfl ((fill_tmp (by rfl) (by rw[hsz];decide)).trans (hd 10 (by decide) hg)) (loadI (hcl w hC 2 D rfl)),grown_refl _ _,fun _=>rfl⟩)
   ·exact flow_skip (fun us w hC hd=>wants_not (d:=7) (b:=true) rfl rfl (by rfl) (by rw[hsz];decide) ((hd 4 (by decide)).trans (by rw[hg];rfl))) (fun _=>grown_refl _ _) (fun _ _ h=>by rw[hg] at h;cases h)
  ·rcases Bool.eq_false_or_eq_true (c1) with hg|hg
   ·exact flow_step (fun us w hC hd=>wants_on (d:=7) (b:=true) rfl rfl (by rfl) (by rw[hsz];decide) ((hd 4 (by decide)).trans (by rw[hg]))) (fun us w hC hd=>⟨_,_,buildI1_val rfl ((fill_tmp (by rfl) (by rw[hsz];decide)).trans (hd 11 (by decide) hg)),World.grownBy_alloc _ _ _,fun _=>ints1 w _⟩)
   ·exact flow_skip (fun us w hC hd=>wants_not (d:=7) (b:=true) rfl rfl (by rfl) (by rw[hsz];decide) ((hd 4 (by decide)).trans (by rw[hg];rfl))) (fun _=>grown_refl _ _) (fun _ _ h=>by rw[hg] at h;cases h)
  ·rcases Bool.eq_false_or_eq_true (c1) with hg|hg
   ·refine flow_call 158 (fun us=>#[.int .i64 1,us 12,us 15]) (fun us w hC hd=>wants_on (d:=7) (b:=true) rfl rfl (by rfl) (by rw[hsz];decide) ((hd 4 (by decide)).trans (by rw[hg]))) (fun us w=>by rw[call_enter rfl (fun _ _=>by simp[go_sem]),List.map_toArray,List.map_cons,List.map_cons,List.map_cons,List.map_nil,eval_const,fill_tmp (by rfl) (by rw[hsz];decide),fill_tmp (by rfl) (by rw[hsz];decide)]) (fun us w hC' hd=>?_)
    rw[show us 12=.int .i64 ((dd:Nat):Int) from hd 9 (by decide) hg]
    exact (within_g 1 ((dd:Nat):Int) (us 15) (hd 12 (by decide) hg) (by simp) hk2).mono (fun e w' h=>⟨_,h.1,h.2,fun _=>rfl⟩)
   ·exact flow_skip (fun us w hC hd=>wants_not (d:=7) (b:=true) rfl rfl (by rfl) (by rw[hsz];decide) ((hd 4 (by decide)).trans (by rw[hg];rfl))) (fun _=>grown_refl _ _) (fun _ _ h=>by rw[hg] at h;cases h)
  ·rcases Bool.eq_false_or_eq_true (c1) with hg|hg
   ·exact flow_step (fun us w hC hd=>wants_free rfl) (fun us w hC hd=>⟨_,w,pick_true rfl ((fill_tmp (by rfl) (by rw[hsz];decide)).trans ((hd 4 (by decide)).trans (by rw[hg]))) ((fill_tmp (by rfl) (by rw[hsz];decide)).trans (hd 13 (by decide) hg)),grown_refl _ _,(by rw[hg];rfl:Value.bool (c2)=.bool (c1&&c2))⟩)
   ·exact flow_step (fun us w hC hd=>wants_free rfl) (fun us w hC hd=>⟨_,w,pick_false rfl ((fill_tmp (by rfl) (by rw[hsz];decide)).trans ((hd 4 (by decide)).trans (by rw[hg]))) rfl,grown_refl _ _,(by rw[hg];rfl:Value.bool (false)=.bool (c1&&c2))⟩)
  ·exact flow_step (fun us w hC hd=>wants_free rfl) (fun us w hC hd=>⟨_,w,move_val rfl ((fill_tmp (by rfl) (by rw[hsz];decide)).trans (hd 14 (by decide))),grown_refl _ _,rfl⟩)
  ·rcases Bool.eq_false_or_eq_true ((c1&&c2)) with hg|hg
   ·exact flow_step (fun us w hC hd=>wants_on (d:=18) (b:=true) rfl rfl (by rfl) (by rw[hsz];decide) ((hd 15 (by decide)).trans (by rw[hg]))) (fun us w hC hd=>⟨_,w,fieldA_val rfl ((fill_old (by rfl)).trans h1) (fieldM w B 3 (by decide)),grown_refl _ _,fun _=>rfl⟩)
   ·exact flow_skip (fun us w hC hd=>wants_not (d:=18) (b:=true) rfl rfl (by rfl) (by rw[hsz];decide) ((hd 15 (by decide)).trans (by rw[hg];rfl))) (fun _=>grown_refl _ _) (fun _ _ h=>by rw[hg] at h;cases h)
  ·rcases Bool.eq_false_or_eq_true ((c1&&c2)) with hg|hg
   ·exact flow_step (fun us w hC hd=>wants_on (d:=18) (b:=true) rfl rfl (by rfl) (by rw[hsz];decide) ((hd 15 (by decide)).trans (by rw[hg]))) (fun us w hC hd=>⟨_,w,loadc_val rfl ((fill_tmp (by rfl) (by rw[hsz];decide)).trans (hd 16 (by decide) hg)) (loadI (hcl w hC 3 h rfl)),grown_refl _ _,fun _=>rfl⟩)
   ·exact flow_skip (fun us w hC hd=>wants_not (d:=18) (b:=true) rfl rfl (by rfl) (by rw[hsz];decide) ((hd 15 (by decide)).trans (by rw[hg];rfl))) (fun _=>grown_refl _ _) (fun _ _ h=>by rw[hg] at h;cases h)
  ·rcases Bool.eq_false_or_eq_true ((c1&&c2)) with hg|hg
   ·exact flow_step (fun us w hC hd=>wants_on (d:=18) (b:=true) rfl rfl (by rfl) (by rw[hsz];decide) ((hd 15 (by decide)).trans (by rw[hg]))) (fun us w hC hd=>⟨_,_,buildI1_val rfl ((fill_tmp (by rfl) (by rw[hsz];decide)).trans (hd 17 (by decide) hg)),World.grownBy_alloc _ _ _,fun _=>ints1 w _⟩)
   ·exact flow_skip (fun us w hC hd=>wants_not (d:=18) (b:=true) rfl rfl (by rfl) (by rw[hsz];decide) ((hd 15 (by decide)).trans (by rw[hg];rfl))) (fun _=>grown_refl _ _) (fun _ _ h=>by rw[hg] at h;cases h)
  ·rcases Bool.eq_false_or_eq_true ((c1&&c2)) with hg|hg
   ·refine flow_call 158 (fun us=>#[.int .i64 0,.int .i64 23,us 21]) (fun us w hC hd=>wants_on (d:=18) (b:=true) rfl rfl (by rfl) (by rw[hsz];decide) ((hd 15 (by decide)).trans (by rw[hg]))) (fun us w=>by rw[call_enter rfl (fun _ _=>by simp[go_sem]),List.map_toArray,List.map_cons,List.map_cons,List.map_cons,List.map_nil,eval_const,eval_const,fill_tmp (by rfl) (by rw[hsz];decide)]) (fun us w hC' hd=>?_)
    exact (within_g 0 23 (us 21) (hd 18 (by decide) hg) (by simp) hk3).mono (fun e w' h=>⟨_,h.1,h.2,fun _=>rfl⟩)
   ·exact flow_skip (fun us w hC hd=>wants_not (d:=18) (b:=true) rfl rfl (by rfl) (by rw[hsz];decide) ((hd 15 (by decide)).trans (by rw[hg];rfl))) (fun _=>grown_refl _ _) (fun _ _ h=>by rw[hg] at h;cases h)
  ·rcases Bool.eq_false_or_eq_true ((c1&&c2)) with hg|hg
   ·exact flow_step (fun us w hC hd=>wants_free rfl) (fun us w hC hd=>⟨_,w,pick_true rfl ((fill_tmp (by rfl) (by rw[hsz];decide)).trans ((hd 15 (by decide)).trans (by rw[hg]))) ((fill_tmp (by rfl) (by rw[hsz];decide)).trans (hd 19 (by decide) hg)),grown_refl _ _,(by rw[hg];rfl:Value.bool (c3)=.bool ((c1&&c2)&&c3))⟩)
   ·exact flow_step (fun us w hC hd=>wants_free rfl) (fun us w hC hd=>⟨_,w,pick_false rfl ((fill_tmp (by rfl) (by rw[hsz];decide)).trans ((hd 15 (by decide)).trans (by rw[hg]))) rfl,grown_refl _ _,(by rw[hg];rfl:Value.bool (false)=.bool ((c1&&c2)&&c3))⟩)
  ·exact flow_step (fun us w hC hd=>wants_free rfl) (fun us w hC hd=>⟨_,w,move_val rfl ((fill_tmp (by rfl) (by rw[hsz];decide)).trans (hd 20 (by decide))),grown_refl _ _,rfl⟩)
  ·rcases Bool.eq_false_or_eq_true (((c1&&c2)&&c3)) with hg|hg
   ·exact flow_step (fun us w hC hd=>wants_on (d:=24) (b:=true) rfl rfl (by rfl) (by rw[hsz];decide) ((hd 21 (by decide)).trans (by rw[hg]))) (fun us w hC hd=>⟨_,w,fieldA_val rfl ((fill_old (by rfl)).trans h1) (fieldM w B 4 (by decide)),grown_refl _ _,fun _=>rfl⟩)
   ·exact flow_skip (fun us w hC hd=>wants_not (d:=24) (b:=true) rfl rfl (by rfl) (by rw[hsz];decide) ((hd 21 (by decide)).trans (by rw[hg];rfl))) (fun _=>grown_refl _ _) (fun _ _ h=>by rw[hg] at h;cases h)
  ·rcases Bool.eq_false_or_eq_true (((c1&&c2)&&c3)) with hg|hg
   ·exact flow_step (fun us w hC hd=>wants_on (d:=24) (b:=true) rfl rfl (by rfl) (by rw[hsz];decide) ((hd 21 (by decide)).trans (by rw[hg]))) (fun us w hC hd=>⟨_,w,loadc_val rfl ((fill_tmp (by rfl) (by rw[hsz];decide)).trans (hd 22 (by decide) hg)) (loadI (hcl w hC 4 mi rfl)),grown_refl _ _,fun _=>rfl⟩)
   ·exact flow_skip (fun us w hC hd=>wants_not (d:=24) (b:=true) rfl rfl (by rfl) (by rw[hsz];decide) ((hd 21 (by decide)).trans (by rw[hg];rfl))) (fun _=>grown_refl _ _) (fun _ _ h=>by rw[hg] at h;cases h)
  ·rcases Bool.eq_false_or_eq_true (((c1&&c2)&&c3)) with hg|hg
   ·exact flow_step (fun us w hC hd=>wants_on (d:=24) (b:=true) rfl rfl (by rfl) (by rw[hsz];decide) ((hd 21 (by decide)).trans (by rw[hg]))) (fun us w hC hd=>⟨_,w,fieldA_val rfl ((fill_old (by rfl)).trans h1) (fieldM w B 5 (by decide)),grown_refl _ _,fun _=>rfl⟩)
   ·exact flow_skip (fun us w hC hd=>wants_not (d:=24) (b:=true) rfl rfl (by rfl) (by rw[hsz];decide) ((hd 21 (by decide)).trans (by rw[hg];rfl))) (fun _=>grown_refl _ _) (fun _ _ h=>by rw[hg] at h;cases h)
  ·rcases Bool.eq_false_or_eq_true (((c1&&c2)&&c3)) with hg|hg
   ·exact flow_step (fun us w hC hd=>wants_on (d:=24) (b:=true) rfl rfl (by rfl) (by rw[hsz];decide) ((hd 21 (by decide)).trans (by rw[hg]))) (fun us w hC hd=>⟨_,w,loadc_val rfl ((fill_tmp (by rfl) (by rw[hsz];decide)).trans (hd 24 (by decide) hg)) (loadI (hcl w hC 5 s rfl)),grown_refl _ _,fun _=>rfl⟩)
   ·exact flow_skip (fun us w hC hd=>wants_not (d:=24) (b:=true) rfl rfl (by rfl) (by rw[hsz];decide) ((hd 21 (by decide)).trans (by rw[hg];rfl))) (fun _=>grown_refl _ _) (fun _ _ h=>by rw[hg] at h;cases h)
  ·rcases Bool.eq_false_or_eq_true (((c1&&c2)&&c3)) with hg|hg
   ·exact flow_step (fun us w hC hd=>wants_on (d:=24) (b:=true) rfl rfl (by rfl) (by rw[hsz];decide) ((hd 21 (by decide)).trans (by rw[hg]))) (fun us w hC hd=>⟨_,_,buildI2_val rfl ((fill_tmp (by rfl) (by rw[hsz];decide)).trans (hd 23 (by decide) hg)) ((fill_tmp (by rfl) (by rw[hsz];decide)).trans (hd 25 (by decide) hg)),World.grownBy_alloc _ _ _,fun _=>ints2 w _ _⟩)
   ·exact flow_skip (fun us w hC hd=>wants_not (d:=24) (b:=true) rfl rfl (by rfl) (by rw[hsz];decide) ((hd 21 (by decide)).trans (by rw[hg];rfl))) (fun _=>grown_refl _ _) (fun _ _ h=>by rw[hg] at h;cases h)
  ·rcases Bool.eq_false_or_eq_true (((c1&&c2)&&c3)) with hg|hg
   ·refine flow_call 158 (fun us=>#[.int .i64 0,.int .i64 59,us 29]) (fun us w hC hd=>wants_on (d:=24) (b:=true) rfl rfl (by rfl) (by rw[hsz];decide) ((hd 21 (by decide)).trans (by rw[hg]))) (fun us w=>by rw[call_enter rfl (fun _ _=>by simp[go_sem]),List.map_toArray,List.map_cons,List.map_cons,List.map_cons,List.map_nil,eval_const,eval_const,fill_tmp (by rfl) (by rw[hsz];decide)]) (fun us w hC' hd=>?_)
    exact (within_g 0 59 (us 29) (hd 26 (by decide) hg) (by simp) hk4).mono (fun e w' h=>⟨_,h.1,h.2,fun _=>rfl⟩)
   ·exact flow_skip (fun us w hC hd=>wants_not (d:=24) (b:=true) rfl rfl (by rfl) (by rw[hsz];decide) ((hd 21 (by decide)).trans (by rw[hg];rfl))) (fun _=>grown_refl _ _) (fun _ _ h=>by rw[hg] at h;cases h)
  ·rcases Bool.eq_false_or_eq_true (((c1&&c2)&&c3)) with hg|hg
   ·exact flow_step (fun us w hC hd=>wants_free rfl) (fun us w hC hd=>⟨_,w,pick_true rfl ((fill_tmp (by rfl) (by rw[hsz];decide)).trans ((hd 21 (by decide)).trans (by rw[hg]))) ((fill_tmp (by rfl) (by rw[hsz];decide)).trans (hd 27 (by decide) hg)),grown_refl _ _,(by rw[hg];rfl:Value.bool (c4)=.bool (((c1&&c2)&&c3)&&c4))⟩)
   ·exact flow_step (fun us w hC hd=>wants_free rfl) (fun us w hC hd=>⟨_,w,pick_false rfl ((fill_tmp (by rfl) (by rw[hsz];decide)).trans ((hd 21 (by decide)).trans (by rw[hg]))) rfl,grown_refl _ _,(by rw[hg];rfl:Value.bool (false)=.bool (((c1&&c2)&&c3)&&c4))⟩)
 ·intro us w' hC' hd
  exact wpList_last rfl (assign_val rfl ((fill_tmp (by rfl) (by rw[hsz];decide)).trans (hd 28 (by decide)))) (hQ us w' hC')
noncomputable def sec_regionC:Code:=regionIn Tryz.f123.body 3
theorem sec_region (a:Act) (B:Nat) (Y M D h mi s A r1 r2 r3 r4 r5 r6:Int) (DC:Array Value) (c0:Bool) (W w:World) (Q:Exit→Act→World→Prop) (hsz:a.tmps.size=22)
  (h1:a.eval (.tmp 1)=.pointer (some ⟨B,0,none⟩))
  (hcl:∀ w,W.grownBy w none→∀ k z,[Y,M,D,h,mi,s][k]?=some z→w.cell? ⟨B,k,none⟩=some (.int .i64 z))
  (hrow:∀ w,W.grownBy w none→w.heap[B]?=some (.cells DC 152 (0,0)))
  (hinf:(Tryz.prog.info? 152).map (·.size)=some DC.size)
  (hDd:∀ w,W.grownBy w none→Calls Tryz.prog 160 #[.agg DC] w fun e w'=>e=.returned (.int .i64 A)∧w.grownBy w' none)
  (hw1:IntKind.i64.wrap (A*86400)=r1)
  (hw2:IntKind.i64.wrap (h*3600)=r2)
  (hw3:IntKind.i64.wrap (r1+r2)=r3)
  (hw4:IntKind.i64.wrap (mi*60)=r4)
  (hw5:IntKind.i64.wrap (r3+r4)=r5)
  (hw6:IntKind.i64.wrap (r5+s)=r6)
  (hw:W.grownBy { w with drawn:=w.drawn+1 } none)
  (hQ:∀ us w',W.grownBy w' none→us 2=.int .i64 r6→Q .normal ((fill a [8,9,10,11,12,13,14,15,16,17,18,19,20,21,2] us).put (some 3) (.nilIface)) w'):sec_regionC.wp Tryz.prog Q a w:=by
 have hst:StaysAll [isV (.agg DC),isV (.int .i64 A),isV (.int .i64 r1),isV (.pointer (some ⟨B,3,none⟩)),isV (.int .i64 h),isV (.int .i64 r2),isV (.int .i64 r3),isV (.pointer (some ⟨B,4,none⟩)),isV (.int .i64 mi),isV (.int .i64 r4),isV (.int .i64 r5),isV (.pointer (some ⟨B,5,none⟩)),isV (.int .i64 s),isV (.int .i64 r6),isV (.int .i64 r6)]:=⟨stays_V _,stays_V _,stays_V _,stays_V _,stays_V _,stays_V _,stays_V _,stays_V _,stays_V _,stays_V _,stays_V _,stays_V _,stays_V _,stays_V _,stays_V _,trivial⟩
 conv=>arg 2;whnf
 refine wp_region_flow 15 [8,9,10,11,12,13,14,15,16,17,18,19,20,21,2] (fun w'=>W.grownBy w' none) (fun w w'=>w.grownBy w' none) (flF [isV (.agg DC),isV (.int .i64 A),isV (.int .i64 r1),isV (.pointer (some ⟨B,3,none⟩)),isV (.int .i64 h),isV (.int .i64 r2),isV (.int .i64 r3),isV (.pointer (some ⟨B,4,none⟩)),isV (.int .i64 mi),isV (.int .i64 r4),isV (.int .i64 r5),isV (.pointer (some ⟨B,5,none⟩)),isV (.int .i64 s),isV (.int .i64 r6),isV (.int .i64 r6)]) (by kernel_rfl) (by kernel_rfl) (fun _ _ h k=>grown_trans k h) (fun j x w w' hg h=>flF_stays hst j x w w' hg h) hw ?_ ?_
 ·refine ⟨?_,?_,?_,?_,?_,?_,?_,?_,?_,?_,?_,?_,?_,?_,?_,trivial⟩
  ·exact flow_step (fun us w hC hd=>wants_free rfl) (fun us w hC hd=>⟨_,w,load_val rfl ((fill_old (by rfl)).trans h1) (hrow w hC) Tryz.underlying152 rfl hinf,grown_refl _ _,rfl⟩)
  ·refine flow_call 160 (fun us=>#[us 8]) (fun us w hC hd=>wants_free rfl) (fun us w=>by rw[call_enter rfl (fun _ _=>by simp[go_sem]),List.map_toArray,List.map_cons,List.map_nil,fill_tmp (by rfl) (by rw[hsz];decide)]) (fun us w hC' hd=>?_)
   rw[show us 8=.agg DC from hd 0 (by decide)]
   exact (hDd w hC').mono (fun e w' h=>⟨_,h.1,h.2,rfl⟩)
  ·exact flow_step (fun us w hC hd=>wants_free rfl) (fun us w hC hd=>⟨_,w,(mulint_val rfl ((fill_tmp (by rfl) (by rw[hsz];decide)).trans (hd 1 (by decide))) rfl).trans (by rw[hw1]),grown_refl _ _,rfl⟩)
  ·exact flow_step (fun us w hC hd=>wants_free rfl) (fun us w hC hd=>⟨_,w,fieldA_val rfl ((fill_old (by rfl)).trans h1) (fieldM w B 3 (by decide)),grown_refl _ _,rfl⟩)
  ·exact flow_step (fun us w hC hd=>wants_free rfl) (fun us w hC hd=>⟨_,w,loadc_val rfl ((fill_tmp (by rfl) (by rw[hsz];decide)).trans (hd 3 (by decide))) (loadI (hcl w hC 3 h rfl)),grown_refl _ _,rfl⟩)
  ·exact flow_step (fun us w hC hd=>wants_free rfl) (fun us w hC hd=>⟨_,w,(mulint_val rfl ((fill_tmp (by rfl) (by rw[hsz];decide)).trans (hd 4 (by decide))) rfl).trans (by rw[hw2]),grown_refl _ _,rfl⟩)
  ·exact flow_step (fun us w hC hd=>wants_free rfl) (fun us w hC hd=>⟨_,w,(addint_val rfl ((fill_tmp (by rfl) (by rw[hsz];decide)).trans (hd 2 (by decide))) ((fill_tmp (by rfl) (by rw[hsz];decide)).trans (hd 5 (by decide)))).trans (by rw[hw3]),grown_refl _ _,rfl⟩)
  ·exact flow_step (fun us w hC hd=>wants_free rfl) (fun us w hC hd=>⟨_,w,fieldA_val rfl ((fill_old (by rfl)).trans h1) (fieldM w B 4 (by decide)),grown_refl _ _,rfl⟩)
  ·exact flow_step (fun us w hC hd=>wants_free rfl) (fun us w hC hd=>⟨_,w,loadc_val rfl ((fill_tmp (by rfl) (by rw[hsz];decide)).trans (hd 7 (by decide))) (loadI (hcl w hC 4 mi rfl)),grown_refl _ _,rfl⟩)
  ·exact flow_step (fun us w hC hd=>wants_free rfl) (fun us w hC hd=>⟨_,w,(mulint_val rfl ((fill_tmp (by rfl) (by rw[hsz];decide)).trans (hd 8 (by decide))) rfl).trans (by rw[hw4]),grown_refl _ _,rfl⟩)
  ·exact flow_step (fun us w hC hd=>wants_free rfl) (fun us w hC hd=>⟨_,w,(addint_val rfl ((fill_tmp (by rfl) (by rw[hsz];decide)).trans (hd 6 (by decide))) ((fill_tmp (by rfl) (by rw[hsz];decide)).trans (hd 9 (by decide)))).trans (by rw[hw5]),grown_refl _ _,rfl⟩)
  ·exact flow_step (fun us w hC hd=>wants_free rfl) (fun us w hC hd=>⟨_,w,fieldA_val rfl ((fill_old (by rfl)).trans h1) (fieldM w B 5 (by decide)),grown_refl _ _,rfl⟩)
  ·exact flow_step (fun us w hC hd=>wants_free rfl) (fun us w hC hd=>⟨_,w,loadc_val rfl ((fill_tmp (by rfl) (by rw[hsz];decide)).trans (hd 11 (by decide))) (loadI (hcl w hC 5 s rfl)),grown_refl _ _,rfl⟩)
  ·exact flow_step (fun us w hC hd=>wants_free rfl) (fun us w hC hd=>⟨_,w,(addint_val rfl ((fill_tmp (by rfl) (by rw[hsz];decide)).trans (hd 10 (by decide))) ((fill_tmp (by rfl) (by rw[hsz];decide)).trans (hd 12 (by decide)))).trans (by rw[hw6]),grown_refl _ _,rfl⟩)
  ·exact flow_step (fun us w hC hd=>wants_free rfl) (fun us w hC hd=>⟨_,w,assign_val rfl ((fill_tmp (by rfl) (by rw[hsz];decide)).trans (hd 13 (by decide))),grown_refl _ _,rfl⟩)
 ·intro us w' hC' hd
  exact wpList_last rfl (assign_val rfl rfl) (hQ us w' hC' (hd 14 (by decide)))
theorem stored {W1 w2:World} {z DC:Array Value} {T:TypeId} (hg:W1.grownBy w2 none):W1.grownBy ((w2.alloc (.cells z T (0,0))).setRow w2.heap.size DC) none∧w2.grownBy ((w2.alloc (.cells z T (0,0))).setRow w2.heap.size DC) none∧((w2.alloc (.cells z T (0,0))).setRow w2.heap.size DC).heap[w2.heap.size]?=some (.cells DC T (0,0)) :=
 ⟨grown_setRow (grown_alloc hg _) hg.size _,grown_setRow (World.grownBy_alloc _ _ _) (Nat.le_refl _) _,setRow_heap _ _ _ _ _ _ (alloc_at w2 _)⟩
theorem rightI_in (Y M D h mi s:Int):Cal.rightI ⟨Y,M,D,h,mi,s⟩=(((inB 1970 9999 [Y]&&inB 1 ((Cal.daysI Y M:Nat):Int) [D])&&inB 0 23 [h])&&inB 0 59 [mi,s]):=by
 have hdd:(M<1∨12<M)→Cal.daysI Y M=0:=fun h=>by rw[Cal.daysI,if_pos h]
 rw[Bool.eq_iff_iff,Cal.rightI_iff,inB_one,inB_one,inB_one,inB_two]
 simp only[Bool.and_eq_true,decide_eq_true_eq]
 generalize Cal.daysI Y M=dd at *
 omega
theorem isDate_any (d:Cal.DI) (w:World) (hLn:Lens w):Calls Tryz.prog 159 #[dV d] w fun e w'=>e=.returned (.bool (Cal.rightI d))∧w.grownBy w' none:=by
 have HD:=hid (fun W hW=>mDays_any d.Y d.M W (hLn.grown (w':=W) hW))
 obtain ⟨Y,M,D,h,mi,s⟩:=d
 have HR:=hid (rightI_in Y M D h mi s)
 have HC:=hid (fun W hg=>dCell (W:=W) (d:=⟨Y,M,D,h,mi,s⟩) (alloc_at w (.cells #[.int .i64 Y,.int .i64 M,.int .i64 D,.int .i64 h,.int .i64 mi,.int .i64 s] 152)) hg)
 generalize Cal.daysI Y M=dd at *
 have HG0:=hid (World.grownBy_alloc w (.cells #[.int .i64 Y,.int .i64 M,.int .i64 D,.int .i64 h,.int .i64 mi,.int .i64 s] 152) none)
 go_enter Tryz.func159,Tryz.ntmps159
 go_wp2
 refine idt_region _ w.heap.size Y M D h mi s dd _ _ _ _ (w.alloc (.cells #[.int .i64 Y,.int .i64 M,.int .i64 D,.int .i64 h,.int .i64 mi,.int .i64 s] 152)) _ _ rfl rfl (fun W hW=>HC.out W hW) (fun W hW=>HD.out W (grown_trans HG0.out hW)) rfl rfl rfl rfl ⟨rfl,rfl,rfl,Nat.le_refl _,fun _ _ _=>rfl⟩ (fun us w3 hg3=>?_)
 simp only[fill_cons,fill_nil,Act.put,List.setIfInBounds_toArray,List.set_cons_succ,List.set_cons_zero]
 have HG:=hid (grown_trans HG0.out hg3)
 rw[←HR.out]
 clear hg3
 go_wp2
 go_ret
 exact ⟨rfl,HG.out⟩
theorem clockI {N h mi s:Int} (h0:0≤N∧N≤3000000) (h1:0≤h∧h≤23) (h2:0≤mi∧mi≤59) (h3:0≤s∧s≤59) :
  IntKind.i64.wrap (N*86400)=N*86400∧IntKind.i64.wrap (h*3600)=h*3600∧IntKind.i64.wrap (N*86400+h*3600)=N*86400+h*3600∧IntKind.i64.wrap (mi*60)=mi*60∧IntKind.i64.wrap (N*86400+h*3600+mi*60)=N*86400+h*3600+mi*60∧IntKind.i64.wrap (N*86400+h*3600+mi*60+s)=N*86400+h*3600+mi*60+s:=by
 simp only[IntKind.wrap,IntKind.bits,IntKind.signed]
 simp
 omega
theorem mSec_any (A:Nat→Addr) (W0:World) (hE:AllErrs W0 A) (hL:Lens W0):MoSec A W0:=by
 intro d w _ hg
 have HIs:=hid (fun W hW=>isDate_any d W (hL.grown (grown_trans hg hW)))
 have HErr:=hid (fun W hW=>err_range (hE.grown (w':=W) (grown_trans hg hW)))
 have HI1:Hid ((Tryz.prog.info? 152).map (·.size)=some 6):=hid (by kernel_rfl)
 obtain ⟨DC,hDC⟩:∃ DC:Array Value,DC=#[.int .i64 d.Y,.int .i64 d.M,.int .i64 d.D,.int .i64 d.h,.int .i64 d.mi,.int .i64 d.s]:=⟨_,rfl⟩
 have HDs:Hid (DC.size=6):=hid (by rw[hDC];rfl)
 have hdv:dV d=.agg DC:=by rw[hDC]
 obtain ⟨W1,hW1⟩:∃ W1:World,W1=w.alloc (.cells DC 152):=⟨_,rfl⟩
 have HGW:Hid (w.grownBy W1 none):=hid (by rw[hW1];exact World.grownBy_alloc _ _ _)
 have HR1:Hid (∀ W,W1.grownBy W none→W.heap[w.heap.size]?=some (.cells DC 152 (0,0))):=hid (fun W hW=>by
  have h:W1.heap[w.heap.size]?=some (.cells DC 152 (0,0)):=by rw[hW1];exact alloc_at w _
  exact (hW.block _ (blk_lt h) (by simp)).trans h)
 have HR2:=hid (HR1.out W1 (grown_refl _ _))
 have HW1:=hid hW1
 have HDC:=hid hDC
 by_cases hr:Cal.rightI d=true
 ·obtain ⟨hrd,hti⟩:=Cal.right_of hr
  rw[if_pos hr]
  rw[hr] at HIs
  have HDd:=hid (fun W hW=>dayOfDate_any d.toD hrd W (hL.grown (grown_trans hg hW)))
  rw[hti,hdv] at HDd
  have hcl:∀ W,W1.grownBy W none→∀ k z,[d.Y,d.M,d.D,d.h,d.mi,d.s][k]?=some z→W.cell? ⟨w.heap.size,k,none⟩=some (.int .i64 z):=fun W hW=>by
   have h1:=HR1.out W hW
   rw[hDC] at h1
   exact dCell (d:=d) h1 (grown_refl _ _)
  have HCl:=hid hcl
  have hN:Cal.dayOf d.toD≤3000000:=by
   have:=Cal.sec_le hrd
   unfold Cal.sec at this
   omega
  have hrb:=(Cal.rightI_iff d).1 hr
  have HK:=hid (clockI (N:=((Cal.dayOf d.toD:Nat):Int)) (h:=d.h) (mi:=d.mi) (s:=d.s) ⟨by omega,by omega⟩ hrb.2.2.2.1 hrb.2.2.2.2.1 hrb.2.2.2.2.2)
  have HS:Hid (((Cal.dayOf d.toD:Nat):Int)*86400+d.h*3600+d.mi*60+d.s=((Cal.sec d.toD:Nat):Int)):=hid (by
   unfold Cal.sec Cal.clock Cal.DI.toD
   simp only
   omega)
  rw[hdv] at HIs ⊢
  generalize ((Cal.sec d.toD:Nat):Int)=SEC at *
  generalize Cal.dayOf d.toD=N at *
  clear hN hrb hrd hti hcl hdv hDC hW1 hr
  go_enter Tryz.func123,Tryz.ntmps123
  go_wp2_with (first
   |(rw[←HW1.out];refine wpList_load_row (by rfl) 152 (.tmp 1) (by rfl) w.heap.size (by rfl) _ DC (0,0) _ HR2.out Tryz.underlying152 (by rfl) (by rw[HDs.out];exact HI1.out) ?_)
   |(go_at_call 159;refine (HIs.out _ HGW.out).mono ?_;rintro e w2 ⟨rfl,hg2⟩;have HG2:=hid hg2;clear hg2))
  refine sec_region _ w.heap.size d.Y d.M d.D d.h d.mi d.s (N:Int) _ _ _ _ _ _ DC true W1 _ _ rfl rfl (fun W hW=>HCl.out W hW) (fun W hW=>HR1.out W hW) (by rw[HDs.out];exact HI1.out) (fun W hW=>HDd.out W (grown_trans HGW.out hW)) HK.out.1 HK.out.2.1 HK.out.2.2.1 HK.out.2.2.2.1 HK.out.2.2.2.2.1 HK.out.2.2.2.2.2 (grown_trans HG2.out ⟨rfl,rfl,rfl,Nat.le_refl _,fun _ _ _=>rfl⟩) (fun us w3 hg3 hus=>?_)
  simp only[fill_cons,fill_nil,Act.put,List.setIfInBounds_toArray,List.set_cons_succ,List.set_cons_zero]
  rw[hus,HS.out]
  have HG3:=hid hg3
  clear hg3 hus
  go_wp2
  go_ret2
  exact ⟨grown_trans HGW.out HG3.out,rfl⟩
 ·have hf:Cal.rightI d=false:=by rw[←Bool.not_eq_true];exact hr
  rw[if_neg hr]
  rw[hf] at HIs
  rw[hdv] at HIs ⊢
  clear hdv hDC hW1 hr hf
  go_enter Tryz.func123,Tryz.ntmps123
  go_wp2_with (first
   |(rw[←HW1.out];refine wpList_load_row (by rfl) 152 (.tmp 1) (by rfl) w.heap.size (by rfl) _ DC (0,0) _ HR2.out Tryz.underlying152 (by rfl) (by rw[HDs.out];exact HI1.out) ?_)
   |(go_at_call 159;refine (HIs.out _ HGW.out).mono ?_;rintro e w2 ⟨rfl,hg2⟩;have HG2:=hid (grown_trans HGW.out hg2);have he:=HErr.out w2 HG2.out;clear hg2))
  go_quiet (fail)
  go_wp2
  go_ret2
  exact ⟨grown_drewN HG2.out _,rfl⟩
theorem isM_in (t:Int):inB 0 253402300799 [t]=decide (isM t):=by
 rw[inB_one,Bool.eq_iff_iff,Bool.and_eq_true,decide_eq_true_eq,decide_eq_true_eq,decide_eq_true_eq,isM]
abbrev zeroD:Array Value:=#[.int .i64 0,.int .i64 0,.int .i64 0,.int .i64 0,.int .i64 0,.int .i64 0]
theorem dayOf_div {d:Cal.Date} (h:Cal.Right d) (t:Nat) (hs:Cal.sec d=t):Cal.dayOf d=t/86400∧d.h=t%86400/3600∧d.mi=t%86400%3600/60∧d.s=t%86400%60:=by
 have hc:=Cal.clock_lt h
 obtain ⟨_,_,_,h1,h2,h3⟩:=h
 unfold Cal.sec at hs
 have hc2:Cal.clock d=(d.h*60+d.mi)*60+d.s:=rfl
 omega
theorem ofEnd {W1 w4:World} {g r:Nat} {DC zs DF:Array Value} {t t':TypeId} (hg:W1.grownBy w4 none) (hs:W1.heap.size≤g) (hrow:w4.heap[g]?=some (.cells DC t (0,0))) (hr:W1.heap[r]?=some (.cells zs t' (0,0))) (a b c:Value)
  (hDF:((DC.setIfInBounds 3 a).setIfInBounds 4 b).setIfInBounds 5 c=DF) :
  W1.grownBy (((w4.setCell ⟨g,3,none⟩ a).setCell ⟨g,4,none⟩ b).setCell ⟨g,5,none⟩ c) none∧(((w4.setCell ⟨g,3,none⟩ a).setCell ⟨g,4,none⟩ b).setCell ⟨g,5,none⟩ c).heap[g]?=some (.cells DF t (0,0)) ∧
   (((w4.setCell ⟨g,3,none⟩ a).setCell ⟨g,4,none⟩ b).setCell ⟨g,5,none⟩ c).heap[r]?=some (.cells zs t' (0,0)):=by
 have h1:W1.grownBy (((w4.setCell ⟨g,3,none⟩ a).setCell ⟨g,4,none⟩ b).setCell ⟨g,5,none⟩ c) none:=grown_set (grown_set (grown_set hg (.inl hs) _) (.inl hs) _) (.inl hs) _
 exact ⟨h1,by rw[heap_setCell_same _ _ _ _ _ _ (heap_setCell_same _ _ _ _ _ _ (heap_setCell_same _ _ _ _ _ _ hrow)),hDF],(h1.block _ (blk_lt hr) (by simp)).trans hr⟩
theorem zeroS {w:World} {g:Nat} {t:TypeId} (k:Nat) (hk:k<6) (h:w.heap[g]?=some (.cells zeroD t (0,0))):(w.setCell ⟨g,k,none⟩ (.int .i64 0)).heap[g]?=some (.cells zeroD t (0,0)):=by
 rw[heap_setCell_same _ _ _ _ _ _ h]
 match k,hk with
 |0,_=>rfl
 |1,_=>rfl
 |2,_=>rfl
 |3,_=>rfl
 |4,_=>rfl
 |5,_=>rfl
theorem zeroT {w w1:World} {t:TypeId} (k:Nat) (hk:k<6) (h:w.grownBy w1 none∧w1.heap[w.heap.size]?=some (.cells zeroD t (0,0))) :
  w.grownBy (w1.setCell ⟨w.heap.size,k,none⟩ (.int .i64 0)) none∧(w1.setCell ⟨w.heap.size,k,none⟩ (.int .i64 0)).heap[w.heap.size]?=some (.cells zeroD t (0,0)) :=
 ⟨grown_set h.1 (.inl (Nat.le_refl _)) _,zeroS k hk h.2⟩
theorem zeroEnd {w w1:World} {t:TypeId} (hg:w.grownBy w1 none) (hr:w1.heap[w.heap.size]?=some (.cells zeroD t (0,0))) :
  w.grownBy ((((((w1.setCell ⟨w.heap.size,0,none⟩ (.int .i64 0)).setCell ⟨w.heap.size,1,none⟩ (.int .i64 0)).setCell ⟨w.heap.size,2,none⟩ (.int .i64 0)).setCell ⟨w.heap.size,3,none⟩ (.int .i64 0)).setCell ⟨w.heap.size,4,none⟩ (.int .i64 0)).setCell ⟨w.heap.size,5,none⟩ (.int .i64 0)).drew none ∧
  ((((((w1.setCell ⟨w.heap.size,0,none⟩ (.int .i64 0)).setCell ⟨w.heap.size,1,none⟩ (.int .i64 0)).setCell ⟨w.heap.size,2,none⟩ (.int .i64 0)).setCell ⟨w.heap.size,3,none⟩ (.int .i64 0)).setCell ⟨w.heap.size,4,none⟩ (.int .i64 0)).setCell ⟨w.heap.size,5,none⟩ (.int .i64 0)).drew.heap[w.heap.size]?=some (.cells zeroD t (0,0)):=by
 have h0:=zeroT 0 (by decide) ⟨hg,hr⟩
 have h1:=zeroT 1 (by decide) h0
 have h2:=zeroT 2 (by decide) h1
 have h3:=zeroT 3 (by decide) h2
 have h4:=zeroT 4 (by decide) h3
 have h5:=zeroT 5 (by decide) h4
 clear h0 h1 h2 h3 h4 hg hr
 revert h5
 generalize World.setCell _ _ _=w9
 intro h5
 exact ⟨grown_drewN h5.1 1,h5.2⟩
theorem mOf_any (A:Nat→Addr) (W0:World) (hE:AllErrs W0 A) (hL:Lens W0):MoOf A W0:=by
 intro t w _ hg
 have HI1:Hid ((Tryz.prog.info? 152).map (·.size)=some 6):=hid (by kernel_rfl)
 have him:=isMoment_any _ [t] _ (ints1 (w.alloc (.cells zeroD 152)) t) (by simp)
 rw[isM_in,World.size_alloc] at him
 have HIm:=hid him
 clear him
 have HG:=hid (grown_alloc (World.grownBy_alloc w (.cells zeroD 152) none) (.cells #[.int .i64 t] 3))
 have HR:Hid (((w.alloc (.cells zeroD 152)).alloc (.cells #[.int .i64 t] 3)).heap[w.heap.size]?=some (.cells zeroD 152 (0,0))):=hid (by
  rw[alloc_old _ _ _ (by simp)];exact alloc_at w _)
 obtain ⟨W1,hW1⟩:∃ W1,W1=(w.alloc (.cells zeroD 152)).alloc (.cells #[.int .i64 t] 3):=⟨_,rfl⟩
 rw[←hW1] at HG HR HIm
 have HW1:=hid hW1
 clear hW1
 by_cases hm:isM t
 ·rw[if_pos hm]
  rw[decide_eq_true hm] at HIm
  obtain ⟨m1,m2⟩:=hm
  obtain ⟨T,rfl⟩:∃ T:Nat,t=(T:Int):=⟨t.toNat,by omega⟩
  rw[Int.toNat_natCast]
  obtain ⟨hr,hsc⟩:=Cal.of_right (t:=T) (by omega)
  obtain ⟨e1,e2,e3,e4⟩:=dayOf_div hr T hsc
  generalize Cal.of T=d at *
  have HDd:=fun W hW=>dateOfDay_any d hr W (hL.grown (w':=W) (grown_trans hg hW))
  rw[show ((Cal.dayOf d:Nat):Int)=(T:Int)/86400 by omega] at HDd
  obtain ⟨DC,hDC⟩:∃ DC:Array Value,DC=#[.int .i64 (d.Y:Int),.int .i64 (d.M:Int),.int .i64 (d.D:Int),.int .i64 0,.int .i64 0,.int .i64 0]:=⟨_,rfl⟩
  have hdv:dV ⟨(d.Y:Int),(d.M:Int),(d.D:Int),0,0,0⟩=.agg DC:=by rw[hDC]
  rw[hdv] at HDd
  have HDd:=hid HDd
  have HDs:Hid (DC.size=6∧DC.all (·.oneCell')=true):=hid (by rw[hDC];exact ⟨rfl,by simp[Value.oneCell']⟩)
  have HDC:=hid hDC
  obtain ⟨DF,hDF⟩:∃ DF:Array Value,DF=#[.int .i64 (d.Y:Int),.int .i64 (d.M:Int),.int .i64 (d.D:Int),.int .i64 (d.h:Int),.int .i64 (d.mi:Int),.int .i64 (d.s:Int)]:=⟨_,rfl⟩
  have hdf:dV d.toI=.agg DF:=by rw[hDF];rfl
  rw[hdf]
  have HDFs:Hid (DF.size=6∧DF.all (·.oneCell')=true):=hid (by rw[hDF];exact ⟨rfl,by simp[Value.oneCell']⟩)
  have HDF:=hid hDF
  have HT:=hid (show (T:Int)%86400/3600=(d.h:Int)∧(T:Int)%3600/60=(d.mi:Int)∧(T:Int)%60=(d.s:Int) by omega)
  clear hDC hdv hDF hdf e1 e2 e3 e4 hsc hr
  go_enter Tryz.func108,Tryz.ntmps108
  go_wp2_with (first
   |(go_at_call 139;rw[←HW1.out];refine HIm.out.mono ?_;rintro e w2 ⟨rfl,hw⟩;rw[hw];clear hw)
   |(go_at_call 140;refine (HDd.out _ HG.out).mono ?_;rintro e w3 ⟨rfl,hg3⟩;have HG3:=hid hg3;clear hg3)
   |(refine wpList_store_row (by rfl) 152 (.tmp 5) (.tmp 16) (by rfl) w3.heap.size DC (by rfl) (by rfl) _ _ (alloc_at w3 _) (by rw[HDs.out.1];exact HI1.out) (by rw[HDs.out.1];rfl) HDs.out.2 ?_;obtain ⟨w4,hx⟩:∃ W:World,W=(w3.alloc (.cells zeroD 152)).setRow w3.heap.size DC:=⟨_,rfl⟩;rw[←hx];have hst:=stored (z:=zeroD) (DC:=DC) (T:=152) HG3.out;rw[←hx,HDC.out] at hst;have HS:=hid hst;have x3:=cell_blk hst.2.2 3 rfl;have y3:=free_blk hst.2.2 3;have x4:=cell_blk hst.2.2 4 rfl;have y4:=free_blk hst.2.2 4;have x5:=cell_blk hst.2.2 5 rfl;have y5:=free_blk hst.2.2 5;clear hst hx)
   |(obtain ⟨w5,hx5⟩:∃ W:World,W=((w4.setCell ⟨w3.heap.size,3,none⟩ (.int .i64 ((T:Int)%86400/3600))).setCell ⟨w3.heap.size,4,none⟩ (.int .i64 ((T:Int)%3600/60))).setCell ⟨w3.heap.size,5,none⟩ (.int .i64 ((T:Int)%60)):=⟨_,rfl⟩;rw[←hx5];have h5:=ofEnd HS.out.1 HG3.out.size HS.out.2.2 HR.out (.int .i64 ((T:Int)%86400/3600)) (.int .i64 ((T:Int)%3600/60)) (.int .i64 ((T:Int)%60)) (DF:=DF) (by rw[HDF.out,HT.out.1,HT.out.2.1,HT.out.2.2];rfl);rw[←hx5] at h5;have H5:=hid h5;clear h5 hx5 x3 y3 x4 y4 x5 y5;refine wpList_load_row (by rfl) 152 (.tmp 5) (by rfl) w3.heap.size (by rfl) _ DF (0,0) _ H5.out.2.1 Tryz.underlying152 (by rfl) (by rw[HDFs.out.1];exact HI1.out) ?_)
   |(refine wpList_store_row (by rfl) 152 (.tmp 2) (.tmp 27) (by rfl) w.heap.size DF (by rfl) (by rfl) _ _ H5.out.2.2 (by rw[HDFs.out.1];exact HI1.out) (by rw[HDFs.out.1];rfl) HDFs.out.2 ?_))
  refine bodyPost_ret (v:=.tuple #[.agg DF,.nilIface]) ?_ rfl ⟨grown_setRow (grown_trans HG.out H5.out.1) (Nat.le_refl _) _,rfl⟩
  exact results_rowT Tryz.results108 _ _ w.heap.size _ _ (0,0) _ _ rfl (setRow_heap _ _ _ DF _ _ H5.out.2.2) Tryz.underlying152 rfl (by rw[HDFs.out.1];exact HI1.out) rfl
 ·rw[if_neg hm]
  rw[decide_eq_false hm] at HIm
  have he:=err_range (hE.grown (grown_trans hg HG.out))
  clear hm
  go_enter Tryz.func108,Tryz.ntmps108
  go_wp2_with (go_at_call 139;rw[←HW1.out];refine HIm.out.mono ?_;rintro e w2 ⟨rfl,hw⟩;rw[hw];clear hw)
  have hz:1<w.heap.size:=World.block_lt_of_cell? w _ (err_range (hE.grown hg))
  have hz1:w.heap.size≠1:=by omega
  have hz2:1≠w.heap.size:=by omega
  have x0:=cell_blk HR.out 0 rfl
  have x1:=cell_blk HR.out 1 rfl
  have x2:=cell_blk HR.out 2 rfl
  have x3:=cell_blk HR.out 3 rfl
  have x4:=cell_blk HR.out 4 rfl
  have x5:=cell_blk HR.out 5 rfl
  have y0:=free_blk HR.out 0
  have y1:=free_blk HR.out 1
  have y2:=free_blk HR.out 2
  have y3:=free_blk HR.out 3
  have y4:=free_blk HR.out 4
  have y5:=free_blk HR.out 5
  go_region
  obtain ⟨w9,hw9⟩:∃ W:World,W=((((((W1.setCell ⟨w.heap.size,0,none⟩ (.int .i64 0)).setCell ⟨w.heap.size,1,none⟩ (.int .i64 0)).setCell ⟨w.heap.size,2,none⟩ (.int .i64 0)).setCell ⟨w.heap.size,3,none⟩ (.int .i64 0)).setCell ⟨w.heap.size,4,none⟩ (.int .i64 0)).setCell ⟨w.heap.size,5,none⟩ (.int .i64 0)).drew:=⟨_,rfl⟩
  rw[←hw9]
  have h9:=zeroEnd HG.out HR.out
  rw[←hw9] at h9
  have H9:=hid h9
  clear h9 hw9 x0 x1 x2 x3 x4 x5 y0 y1 y2 y3 y4 y5 hz hz1 hz2 he
  go_wp2
  refine bodyPost_ret (v:=.tuple #[.agg zeroD,errV A 1]) ?_ rfl ⟨H9.out.1,rfl⟩
  exact results_rowT Tryz.results108 _ _ w.heap.size _ _ (0,0) _ _ rfl H9.out.2 Tryz.underlying152 rfl HI1.out rfl
end Go.Proofs.YtjjbkpjjmbfdhaaGreatDoor
