import Derived.Test.YtndkifkhdollgaaGreatDoorZr00
import Derived.Test.YtndkifkhdollgaaGreatDoorZr02
import Derived.Test.YtndkifkhdollgaaGreatDoorZr04
import Derived.Test.YtndkifkhdollgaaGreatDoorZr10
import Derived.Test.YtndkifkhdollgaaGreatDoorZr12
import Derived.Test.YtndkifkhdollgaaGreatDoorZr13
import Derived.Test.YtndkifkhdollgaaGreatDoorZr17
import Derived.Deep.RegionHeld3
import Derived.Laws.Rows
import Derived.Laws.Tables
import Derived.Laws.Cover3
set_option linter.unusedVariables false
set_option linter.unusedSimpArgs false
set_option maxRecDepth 100000
set_option maxHeartbeats 2000000
namespace Go.Proofs.YtndkifkhdollgaaGreatDoor
open Lib (hid)
open Go.RowKit
section
variable {P:Program}
theorem step_appV {w:World} {ops:Array Oper} {o:Oper} {a:Act} {K:Act→World→Prop} {Q:Exit→Act→World→Prop} {E:Prop} (hgd:o.guard=none) (s x:Operand) (t:TypeId)
  (ho:o.op=.call { callee:=.builtin .append,args:=#[s,x],argTypes:=#[t,t] })
  (base:Nat) (e:TypeId) (z:Value) (bytes:Nat) (ht:P.underlying t=some (.slice e)) (hi:(P.info? e).map (fun i=>(i.zero,i.size,i.bytes))=some (some z,1,bytes)) (hzs:z.cells.size=1) (hby:bytes≤64)
  (v:Value) (n:Nat) (xs:List Value) (hs:a.eval s=v) (hown:w.ownsRow base e 1 v n xs)
  (u:Value) (l:List Value) (hx:a.eval x=u) (hB:Vals w u l) (h0:Whole0 u) (h1:∀ y∈l,y.oneCell'=true)
  (h63:n+l.length≤1099511627776) (hbase:base≤w.heap.size)
  (h:∀ v' w',w'.ownsRow base e 1 v' (n+l.length) (xs++l)→w.grownBy w' v.ownBlock→K (a.put o.dst v') w'):if Region.wanted o (yielded ops a.tmps)=true then Oper.wp P o a w K Q else E:=by
 have hw:Region.wanted o (yielded ops a.tmps)=true:=by simp[Region.wanted,hgd]
 rw[if_pos hw]
 obtain ⟨i,h1',h2',h3',h4'⟩:=info_parts hi
 obtain ⟨ad,sb,so,c,rfl,hc,ha,hcell⟩:=hB
 match ad with
 |none =>
  obtain ⟨hn0,rfl⟩:=h0 _ _ rfl
  obtain rfl:=List.eq_nil_of_length_eq_zero hn0
  have hrun:=run_append_owned_none (P:=P) (w:=w) base t o.type e i 1 ht h1' v n xs hown
  have hx':a.eval x=.slice none 0 0:=hx
  have hK:=h v w (by simpa using hown) (grown_refl _ _)
  unfold Oper.wp
  simp[execOp,ho,resolve,invoke,builtin,hs,hx',hrun,Result.andThen]
  exact hK
 |some ad =>
  obtain ⟨v',w',hr,k1,k2,_⟩:=run_append_sharp (P:=P) w base t o.type e i z ht h1' h2' h3' hzs (by rw[h4'];exact hby) v n xs hown ad l.length c l rfl (fun j u' hj=>by
   have hjl:=(List.getElem?_eq_some_iff.1 hj).1
   obtain ⟨e1,_⟩:=ha (by omega)
   obtain rfl:=Option.some.inj e1
   rw[addr_addO,hcell j u' hj]) h1 h63 hbase
  unfold Oper.wp execOp
  simp only[ho,resolve,invoke,builtin,Sem.run_bind,Sem.run_pure,Result.andThen_ok,List.map_toArray,List.map_cons,List.map_nil,hs,hx,hr]
  exact h v' w' k1 k2
end
theorem cat_take (L:List (List Nat)) {j:Nat} (hj:j<L.length):(L.take (j+1)).flatten=(L.take j).flatten++L.getD j []:=by
 rw[Pt.sort_take L hj,List.flatten_append]
 simp
theorem Each.lt {w:World}:∀ {xs:List Value} {L:List (List Nat)},Each w xs L→∀ x∈L.flatten,x<256
 |[],[],_,x,hx=>by simp at hx
 |_ :: _,_ :: _,h,x,hx=>by
  rw[List.flatten_cons,List.mem_append] at hx
  rcases hx with hx|hx
  ·exact h.1.1.lt x hx
  ·exact h.2.lt x hx
def inI (t:Int):Prop:=-9223372036854775808≤t∧t≤9223372036854775807
def isM (t:Int):Prop:=0≤t∧t≤253402300799
instance (t:Int):Decidable (isM t):=by unfold isM;infer_instance
def MoSec (A:Nat→Addr) (w:World):Prop:=∀ (d:Cal.DI) (W:World),(inI d.Y∧inI d.M∧inI d.D∧inI d.h∧inI d.mi∧inI d.s)→w.grownBy W none→Calls Tryz.prog 163 #[dV d] W fun e w'=>W.grownBy w' none∧e=.returned (.tuple (if Cal.rightI d=true then #[.int .i64 ((Cal.sec d.toD:Nat):Int),.nilIface] else #[.int .i64 0,errV A 1]))
def moGot (A:Nat→Addr):Except Nat Nat→Value
 |.ok n=>.tuple #[.int .i64 (n:Int),.nilIface]
 |.error k=>.tuple #[.int .i64 0,errV A k]
def MoGet (A:Nat→Addr) (w:World):Prop:=∀ (v:Value) (l:List Nat) (W:World),w.grownBy W none→Bytes W v l→l.length≤1000→Calls Tryz.prog 120 #[v] W fun e w'=>W.grownBy w' none∧e=.returned (moGot A (Cal.get l))
def inB (lo hi:Int) (l:List Int):Bool:=l.all fun x=>decide (lo≤x)&&decide (x≤hi)
theorem inB_false {lo hi:Int} {l:List Int} (k:Nat) (hk:k<l.length) (h:l.getD k 0<lo∨hi<l.getD k 0):inB lo hi l=false:=by
 unfold inB
 rw[List.all_eq_false]
 refine ⟨l.getD k 0,?_,?_⟩
 ·rw[List.getD_eq_getElem?_getD,List.getElem?_eq_getElem hk];exact List.getElem_mem hk
 ·simp only[Bool.and_eq_true,decide_eq_true_eq];omega
theorem inB_true {lo hi:Int} {l:List Int} (h:∀ j,j<l.length→lo≤l.getD j 0∧l.getD j 0≤hi):inB lo hi l=true:=by
 unfold inB
 rw[List.all_eq_true]
 intro x hx
 obtain ⟨j,hj,rfl⟩:=List.getElem_of_mem hx
 have:=h j hj
 rw[List.getD_eq_getElem?_getD,List.getElem?_eq_getElem hj] at this
 simpa using this
theorem inB_one (lo hi x:Int):inB lo hi [x]=(decide (lo≤x)&&decide (x≤hi)):=by simp[inB]
theorem inB_two (lo hi x y:Int):inB lo hi [x,y]=((decide (lo≤x)&&decide (x≤hi))&&(decide (lo≤y)&&decide (y≤hi))):=by simp[inB]
theorem mwithin_any (lo hi:Int) (v:Value) (l:List Int) (w:World) (h:Ints w v l) (hl:l.length≤1000000) :
  Calls Tryz.prog 196 #[.int .i64 lo,.int .i64 hi,v] w fun e w'=>e=.returned (.bool (inB lo hi l))∧w'=w:=by
 obtain ⟨a1,g1,o1,c1,rfl,k1,k2,k3⟩:=h
 have K2:=hid k2
 have K3:=hid k3
 have HT:Hid ((∀ j,j<l.length→lo≤l.getD j 0∧l.getD j 0≤hi)→inB lo hi l=true):=hid inB_true
 have HF:Hid (∀ k,k<l.length→l.getD k 0<lo∨hi<l.getD k 0→inB lo hi l=false):=hid (fun k=>inB_false k)
 clear k2 k3
 generalize inB lo hi l=D at *
 obtain ⟨n,hn⟩:∃ n,n=l.length:=⟨_,rfl⟩
 rw[←hn] at K2 K3 hl k1 HT HF ⊢
 clear hn
 go_enter Tryz.func196,Tryz.ntmps196
 go_wp2
 go_loopw [11] (fun i wr=>∃ k:Nat,k≤n∧i=.int .i64 k∧wr=w∧∀ j,j<k→lo≤l.getD j 0∧l.getD j 0≤hi) (fun i _=>n-(intOf i).toNat)
 case atStart=>exact ⟨0,Nat.zero_le _,rfl,rfl,fun j hj=>absurd hj (Nat.not_lt_zero _)⟩
 case round =>
  obtain ⟨k,hk,rfl,rfl,hall⟩:=hrel
  have HAll:=hid hall
  clear hall
  by_cases hlt:k<n
  ·obtain ⟨rfl,_⟩:=K2.out (by omega)
   have f1:=K3.out k hlt
   have HFk:=hid (HF.out k hlt)
   generalize hx:l.getD k 0=x at *
   have HX:=hid hx
   clear hx
   by_cases h1:x<lo
   ·have hD:=hid (HFk.out (.inl h1))
    go_wp2
    go_ret
    exact ⟨retB2 hD.out.symm,rfl⟩
   ·by_cases h2:hi<x
    ·have hD:=hid (HFk.out (.inr h2))
     go_wp2
     go_ret
     exact ⟨retB2 hD.out.symm,rfl⟩
    ·go_wp2
     go_roundw
     case rel=>exact ⟨k+1,by omega,by go_num,trivial,fun j hj=>(by
      rcases Nat.lt_or_ge j k with h|h
      ·exact HAll.out j h
      ·obtain rfl:j=k:=by omega
       rw[HX.out];omega)⟩
     case measure=>simp[intOf];omega
  ·obtain rfl:k=n:=by omega
   have hD:=hid (HT.out HAll.out)
   go_wp2
   go_ret
   exact ⟨retB2 hD.out.symm,rfl⟩
theorem ints1 (w:World) (x:Int):Ints (w.alloc (.cells #[.int .i64 x] 3)) (.slice (some ⟨w.heap.size,0,none⟩) 1 1) [x] :=
 Ints.lit (l:=[x]) (alloc_at w (.cells #[.int .i64 x] 3))
theorem ints2 (w:World) (x y:Int):Ints (w.alloc (.cells #[.int .i64 x,.int .i64 y] 3)) (.slice (some ⟨w.heap.size,0,none⟩) 2 2) [x,y] :=
 Ints.lit (l:=[x,y]) (alloc_at w (.cells #[.int .i64 x,.int .i64 y] 3))
theorem mLeap_any (y:Int) (w:World):Calls Tryz.prog 237 #[.int .i64 y] w fun e w'=>e=.returned (.bool (Cal.leapI y))∧w'=w:=by
 have HL:Hid (Cal.leapI y=(decide (y.tmod 400=0)||(decide (y.tmod 4=0)&&decide (y.tmod 100≠0)))):=hid (by
  unfold Cal.leapI
  have e1:=Cal.tmod_zero y 400 (by decide)
  have e2:=Cal.tmod_zero y 4 (by decide)
  have e3:=Cal.tmod_zero y 100 (by decide)
  simp only[←e1,←e2,ne_eq,←e3])
 generalize Cal.leapI y=R at *
 generalize h1:y.tmod 400=a at *
 generalize h2:y.tmod 4=b at *
 generalize h3:y.tmod 100=c at *
 by_cases hb:b=0
 ·subst hb
  by_cases hc:c=0
  ·subst hc
   by_cases ha:a=0
   ·subst ha
    go_enter Tryz.func237,Tryz.ntmps237
    go_wp2
    go_ret
    exact ⟨retB2 (by rw[HL.out];simp),rfl⟩
   ·have ha':(a==0)=false:=beq_eq_false_iff_ne.2 ha
    go_enter Tryz.func237,Tryz.ntmps237
    go_wp2
    go_ret
    exact ⟨retB2 (by rw[HL.out];simp[ha]),rfl⟩
  ·have hc':(c != 0)=true:=by rw[bne,beq_eq_false_iff_ne.2 hc];rfl
   go_enter Tryz.func237,Tryz.ntmps237
   go_wp2
   go_ret
   exact ⟨retB2 (by rw[HL.out];simp[hc]),rfl⟩
 ·have hb':(b==0)=false:=beq_eq_false_iff_ne.2 hb
  by_cases ha:a=0
  ·subst ha
   go_enter Tryz.func237,Tryz.ntmps237
   go_wp2
   go_ret
   exact ⟨retB2 (by rw[HL.out];simp),rfl⟩
  ·have ha':(a==0)=false:=beq_eq_false_iff_ne.2 ha
   go_enter Tryz.func237,Tryz.ntmps237
   go_wp2
   go_ret
   exact ⟨retB2 (by rw[HL.out];simp[ha,hb]),rfl⟩
structure Lens (w:World):Prop where
 at_:∀ k,k<12→w.cell? ⟨32,k,none⟩=some (.int .i64 (monthsL.getD k 0))
theorem Lens.grown {w w':World} (h:Lens w) (hg:w.grownBy w' none):Lens w' :=
 ⟨fun k hk=>(World.cell?_of_block (hg.block _ (World.block_lt_of_cell? w _ (h.at_ k hk)) (by simp))).trans (h.at_ k hk)⟩
theorem mDays_any (y m:Int) (w:World) (hLn:Lens w):Calls Tryz.prog 218 #[.int .i64 y,.int .i64 m] w fun e w'=>e=.returned (.int .i64 ((Cal.daysI y m:Nat):Int))∧w.grownBy w' none:=by
 have HL:=hid (mLeap_any y)
 have HWi:=hid (mwithin_any 1 12 _ [m] _ (ints1 w m) (by simp))
 rw[inB_one] at HWi
 have HG:Hid (w.grownBy (w.alloc (.cells #[.int .i64 m] 3)) none):=hid (World.grownBy_alloc _ _ _)
 have HLn:=hid (hLn.grown HG.out)
 clear hLn
 obtain ⟨w1,hw1⟩:∃ w1,w1=w.alloc (.cells #[.int .i64 m] 3):=⟨_,rfl⟩
 have HW1:=hid hw1
 by_cases h1:1≤m∧m≤12
 ·obtain ⟨h1,h2⟩:=h1
  rw[decide_eq_true h1,decide_eq_true h2] at HWi
  obtain ⟨k,hk⟩:∃ k:Nat,m=(k:Int)+1:=⟨(m-1).toNat,by omega⟩
  have hk12:k<12:=by omega
  have hcell:=HLn.out.at_ k hk12
  by_cases hm2:m=2
  ·by_cases hl:Cal.leapI y=true
   ·have HR:Hid (Cal.daysI y m=29):=hid (by rw[Cal.daysI,if_neg (by omega),if_pos hm2,if_pos hl])
    rw[HR.out]
    rw[hl] at HL
    clear HR hk hl hcell
    subst hm2
    go_enter Tryz.func218,Tryz.ntmps218
    go_wp2_with (first
     |(go_at_call 196;refine HWi.out.mono ?_;rintro e w2 ⟨rfl,rfl⟩)
     |(go_at_call 237;refine (HL.out _).mono ?_;rintro e w2 ⟨rfl,rfl⟩))
    go_ret
    exact ⟨rfl,HG.out⟩
   ·have hlf:Cal.leapI y=false:=by rw[←Bool.not_eq_true];exact hl
    have HR:Hid (Cal.daysI y m=28):=hid (by rw[Cal.daysI,if_neg (by omega),if_pos hm2,if_neg hl])
    rw[HR.out]
    rw[hlf] at HL
    obtain rfl:k=1:=by omega
    clear HR hk hl hlf
    subst hm2
    go_enter Tryz.func218,Tryz.ntmps218
    go_wp2_with (first
     |(go_at_call 196;refine HWi.out.mono ?_;rintro e w2 ⟨rfl,rfl⟩)
     |(go_at_call 237;refine (HL.out _).mono ?_;rintro e w2 ⟨rfl,rfl⟩))
    go_ret
    exact ⟨rfl,HG.out⟩
  ·have hM:=months_at (y:=y) k hk12 (.inl (by omega))
   rw[hM,←hk] at hcell
   generalize Cal.daysI y m=R at *
   subst hk
   have hb:((k:Int)+1==2)=false:=beq_eq_false_iff_ne.2 hm2
   clear hM hm2
   go_enter Tryz.func218,Tryz.ntmps218
   go_wp2_with (first
    |(go_at_call 196;refine HWi.out.mono ?_;rintro e w2 ⟨rfl,rfl⟩)
    |(go_at_call 237;refine (HL.out _).mono ?_;rintro e w2 ⟨rfl,rfl⟩))
   go_ret
   exact ⟨rfl,HG.out⟩
 ·have hf:(decide (1≤m)&&decide (m≤12))=false:=by
   rw[Bool.and_eq_false_iff,decide_eq_false_iff_not,decide_eq_false_iff_not];omega
  rw[hf] at HWi
  have HR:Hid (Cal.daysI y m=0):=hid (by rw[Cal.daysI,if_pos (by omega)])
  rw[HR.out]
  go_enter Tryz.func218,Tryz.ntmps218
  go_wp2_with (first
   |(go_at_call 196;refine HWi.out.mono ?_;rintro e w2 ⟨rfl,rfl⟩)
   |(go_at_call 237;refine (HL.out _).mono ?_;rintro e w2 ⟨rfl,rfl⟩))
  go_ret
  exact ⟨rfl,HG.out⟩
theorem leapsAhead_any (k:Nat) (hk:k≤100000) (w:World):Calls Tryz.prog 238 #[.int .i64 ((1970+k:Nat):Int)] w fun e w'=>e=.returned (.int .i64 (((1969+k)/4+(1969+k)/400-(1969+k)/100:Nat):Int))∧w'=w:=by
 obtain ⟨y,hy⟩:∃ y:Int,y=((1970+k:Nat):Int):=⟨_,rfl⟩
 rw[←hy]
 have h1:1970≤y:=by omega
 have h2:y≤101970:=by omega
 have HY:=hid hy
 clear hy
 go_enter Tryz.func238,Tryz.ntmps238
 go_wp2
 go_ret
 exact ⟨retI2 (by have:=HY.out;omega),rfl⟩
theorem leaps1970 (w:World):Calls Tryz.prog 238 #[.int .i64 1970] w fun e w'=>e=.returned (.int .i64 477)∧w'=w:=by
 have e1:(1970:Int)=((1970+0:Nat):Int):=by omega
 have e2:(((1969+0)/4+(1969+0)/400-(1969+0)/100:Nat):Int)=477:=by omega
 rw[e1,←e2]
 exact leapsAhead_any 0 (by omega) w
theorem daysAhead_any (k:Nat) (hk:k≤100000) (w:World):Calls Tryz.prog 219 #[.int .i64 ((1970+k:Nat):Int)] w fun e w'=>e=.returned (.int .i64 ((Cal.bef k:Nat):Int))∧w'=w:=by
 have HA:=hid (fun W=>leapsAhead_any k hk W)
 have HB:=hid leaps1970
 have HE:=hid (Cal.bef_closed k)
 obtain ⟨y,hy⟩:∃ y:Int,y=((1970+k:Nat):Int):=⟨_,rfl⟩
 obtain ⟨q,hq⟩:∃ q:Nat,q=(1969+k)/4+(1969+k)/400-(1969+k)/100:=⟨_,rfl⟩
 rw[←hy,←hq] at HA
 rw[←hy]
 have h1:1970≤y:=by omega
 have h2:y≤101970:=by omega
 have h3:q≤200000:=by omega
 have HY:=hid hy
 have HQ:=hid hq
 clear hy hq
 go_enter Tryz.func219,Tryz.ntmps219
 go_wp2_with (first
  |(go_at_call 238;with_reducible refine (HA.out _).mono ?_;rintro e w2 ⟨rfl,rfl⟩)
  |(go_at_call 238;with_reducible refine (HB.out _).mono ?_;rintro e w2 ⟨rfl,rfl⟩))
 go_ret
 exact ⟨retI2 (by have:=HY.out;have:=HQ.out;have:=HE.out;omega),rfl⟩
theorem dayOfDate_any (d:Cal.Date) (hd:Cal.Right d) (w:World) (hLn:Lens w):Calls Tryz.prog 198 #[dV d.toI] w fun e w'=>e=.returned (.int .i64 ((Cal.dayOf d:Nat):Int))∧w.grownBy w' none:=by
 obtain ⟨Y,M,D,h,mi,s⟩:=d
 obtain ⟨⟨y1,y2⟩,⟨m1,m2⟩,⟨d1,d2⟩,h1,mi1,s1⟩:=hd
 simp only at y1 y2 m1 m2 d1 d2 h1 mi1 s1
 have hd31:=(Cal.days_pos (y:=Y) m1 m2).2
 obtain ⟨k,hk⟩:∃ k,Y=1970+k:=⟨Y-1970,by omega⟩
 have HBe:=hid (fun W=>daysAhead_any k (by omega) W)
 have HDa:=hid (fun (j:Nat) W (hW:w.grownBy W none)=>by
  have:=mDays_any ((Y:Nat):Int) ((j:Nat):Int) W (hLn.grown hW)
  rw[Cal.daysI_nat] at this
  exact this)
 have HU:Hid (Cal.bef k≤2938980):=hid (by have:=Cal.bef_closed k;omega)
 have HMs:Hid (∀ j,Cal.ms Y (j+1)=Cal.ms Y j+Cal.days Y (j+1)):=hid (fun j=>rfl)
 have HMl:=hid (ms_le Y)
 have HDl:Hid (∀ j,Cal.days Y j≤31):=hid (fun j=>by rw[←Cal.daysI_nat];exact Cal.daysI_le _ _)
 have HE:Hid (Cal.dayOf ⟨Y,M,D,h,mi,s⟩=Cal.bef k+(D-1)+Cal.ms Y (M-1)):=hid (by
  unfold Cal.dayOf
  simp only
  rw[show Y-1970=k by omega]
  omega)
 have HC:=hid (fun W hg=>dCell (W:=W) (d:=⟨(Y:Int),(M:Int),(D:Int),(h:Int),(mi:Int),(s:Int)⟩) (alloc_at w (.cells #[.int .i64 (Y:Int),.int .i64 (M:Int),.int .i64 (D:Int),.int .i64 (h:Int),.int .i64 (mi:Int),.int .i64 (s:Int)] 217)) hg)
 obtain ⟨W1,hW1⟩:∃ W1,W1=w.alloc (.cells #[.int .i64 (Y:Int),.int .i64 (M:Int),.int .i64 (D:Int),.int .i64 (h:Int),.int .i64 (mi:Int),.int .i64 (s:Int)] 217):=⟨_,rfl⟩
 have HG1:Hid (w.grownBy W1 none):=hid (by rw[hW1];exact World.grownBy_alloc _ _ _)
 rw[←hW1] at HC
 have HW1:=hid hW1
 have c0:W1.cell? ⟨w.heap.size,0,none⟩=some (.int .i64 (Y:Int)):=HC.out W1 (grown_refl _ _) 0 _ rfl
 have c2:W1.cell? ⟨w.heap.size,2,none⟩=some (.int .i64 (D:Int)):=HC.out W1 (grown_refl _ _) 2 _ rfl
 simp only[Cal.Date.toI]
 generalize Cal.dayOf ⟨Y,M,D,h,mi,s⟩=SEC at *
 generalize Cal.bef k=b0 at *
 have HYk:=hid hk
 clear y1 hk hW1
 go_enter Tryz.func198,Tryz.ntmps198
 go_wp2
 rw[←HW1.out]
 have hb:=HU.out
 refine wp_region_quiet_tail (fun w'=>∃ n,w'=W1.drewN n) 7 (by kernel_rfl) (by kernel_rfl) ⟨1,rfl⟩ ?_
 simp only[List.take_succ_cons,List.take_zero,List.drop_succ_cons,List.drop_zero]
 iterate 2 (go_big_quiet_step (fail))
 refine wpQuiet_call (by rfl) 219 #[.int .i64 ((Y:Nat):Int)] (.int .i64 (b0:Int)) (fun _=>by simp[go_sem]) (fun w' hw'=>by rw[HYk.out];exact (HBe.out w').mono (fun e w'' h=>⟨h.1,by rw[h.2];exact hw'⟩)) ?_
 simp only[Act.put,List.setIfInBounds_toArray,List.set_cons_succ,List.set_cons_zero]
 repeat (go_big_quiet_step (fail))
 refine wpQuiet_nil ?_
 rintro _ ⟨n3,rfl⟩
 obtain ⟨W2,hW2⟩:∃ W2,W2=W1.drewN n3:=⟨_,rfl⟩
 have HG2:Hid (W1.grownBy W2 none):=hid (by rw[hW2];exact grown_drewN (grown_refl _ _) _)
 rw[←hW2]
 clear hW2 c0 c2
 go_wp2
 go_loopw [3,4] (fun n i wr=>∃ j:Nat,j<M∧i=.int .i64 ((j+1:Nat):Int)∧n=.int .i64 ((b0+(D-1)+Cal.ms Y j:Nat):Int)∧W1.grownBy wr none) (fun _ i _=>100-(intOf i).toNat)
 case atStart=>exact ⟨0,by omega,rfl,by simp only[Cal.ms];congr 1;omega,HG2.out⟩
 case round =>
  obtain ⟨j,hj,rfl,rfl,hg⟩:=hrel
  have HG:=hid hg
  have q0:wr.cell? ⟨w.heap.size,0,none⟩=some (.int .i64 (Y:Int)):=HC.out wr hg 0 _ rfl
  have q1:wr.cell? ⟨w.heap.size,1,none⟩=some (.int .i64 (M:Int)):=HC.out wr hg 1 _ rfl
  have hml:=HMl.out j
  have hms:=HMs.out j
  have hdl:=HDl.out (j+1)
  clear hg
  obtain ⟨i,hi⟩:∃ i,i=j+1:=⟨_,rfl⟩
  rw[←hi] at hdl hms ⊢
  have HI:=hid hi
  have HDi:=hid (HDa.out i)
  generalize Cal.days Y i=dy at *
  obtain ⟨a,ha⟩:∃ a,a=b0+(D-1)+Cal.ms Y j:=⟨_,rfl⟩
  have hal:a≤3000000:=by omega
  have HA:=hid ha
  have HMs2:=hid hms
  rw[←ha]
  clear hi ha hms hml
  by_cases hjM:i<M
  ·go_wp2_with (go_at_call 218;refine (HDi.out _ (grown_trans HG1.out HG.out)).mono ?_;rintro e w4 ⟨rfl,hg4⟩;have HG4:=hid (grown_trans HG.out hg4);clear hg4)
   go_roundw
   case rel=>exact ⟨i,by omega,by go_num,by rw[HMs2.out,←Nat.add_assoc,←HA.out];go_num,HG4.out⟩
   case measure=>simp[intOf];omega
  ·have hMj:j=M-1:=by have:=HI.out;omega
   have HE2:Hid (SEC=a):=hid (by rw[HE.out,HA.out,hMj])
   clear q0 hMj
   go_wp2
   go_ret
   exact ⟨retI2 (by rw[HE2.out]),grown_trans HG1.out HG.out⟩
def isI (l:List Int):Value→World→Prop:=fun x w=>Ints w x l
def isIfI (g b:Bool) (l:List Int):Value→World→Prop:=fun x w=>g=b→Ints w x l
theorem stays_I (l:List Int):Stays (isI l):=fun _ _ _ hg h=>Ints.grown h hg
theorem stays_IfI (g b:Bool) (l:List Int):Stays (isIfI g b l):=fun _ _ _ hg h e=>Ints.grown (h e) hg
theorem eval_const {a:Act} {v:Value}:a.eval (.const v)=v:=rfl
theorem buildI1_val {a:Act} {o:Oper} {w:World} {x:Operand} {n:Int} (ho:o.op=.buildSlice 46 1 #[(0,x)]) (hx:a.eval x=.int .i64 n) :
  (execOp a.eval o).run Tryz.prog w=.ok (.value (.slice (some ⟨w.heap.size,0,none⟩) 1 1)) (w.alloc (.cells #[.int .i64 n] 3)):=build1_val ho hx (by simp[go_sem])
theorem buildI2_val {a:Act} {o:Oper} {w:World} {x y:Operand} {n m:Int} (ho:o.op=.buildSlice 46 2 #[(0,x),(1,y)]) (hx:a.eval x=.int .i64 n) (hy:a.eval y=.int .i64 m) :
  (execOp a.eval o).run Tryz.prog w=.ok (.value (.slice (some ⟨w.heap.size,0,none⟩) 2 2)) (w.alloc (.cells #[.int .i64 n,.int .i64 m] 3)):=by
 have hb:(Instr.buildSlice 46 2 #[(0,.int .i64 n),(1,.int .i64 m)]).run Tryz.prog w=.ok (.slice (some ⟨w.heap.size,0,none⟩) 2 2) (w.alloc (.cells #[.int .i64 n,.int .i64 m] 3)):=by simp[go_sem]
 simp only[execOp,ho,List.map_toArray,List.map_cons,List.map_nil,hx,hy]
 simp[Result.andThen,hb]
theorem within_g (lo hi:Int) {l:List Int} {w:World} {c:Bool} (v:Value) (h:Ints w v l) (hl:l.length≤1000000) (hc:inB lo hi l=c) :
  Calls Tryz.prog 196 #[.int .i64 lo,.int .i64 hi,v] w fun e w'=>e=.returned (.bool c)∧w.grownBy w' none :=
 (mwithin_any lo hi v l w h hl).mono (fun e w' h=>⟨by rw[h.1,hc],by rw[h.2];exact grown_refl _ _⟩)
theorem fieldM (w:World) (B:Nat):∀ (k:Nat) (hk:k<6),(Instr.fieldAt 217 (.pointer (some ⟨B,0,none⟩)) k).run Tryz.prog w=.ok (.pointer (some ⟨B,k,none⟩)) w
 |0,_=>by kernel_rfl
 |1,_=>by kernel_rfl
 |2,_=>by kernel_rfl
 |3,_=>by kernel_rfl
 |4,_=>by kernel_rfl
 |5,_=>by kernel_rfl
 |n+6,h=>absurd h (by omega)
noncomputable def idt_regionC:Code:=regionIn Tryz.f197.body 1
theorem idt_region (a:Act) (B:Nat) (Y M D h mi s:Int) (dd:Nat) (c1 c2 c3 c4:Bool) (W w:World) (Q:Exit→Act→World→Prop) (hsz:a.tmps.size=32)
  (h1:a.eval (.tmp 1)=.pointer (some ⟨B,0,none⟩))
  (hcl:∀ w,W.grownBy w none→∀ k z,[Y,M,D,h,mi,s][k]?=some z→w.cell? ⟨B,k,none⟩=some (.int .i64 z))
  (hDy:∀ w,W.grownBy w none→Calls Tryz.prog 218 #[.int .i64 Y,.int .i64 M] w fun e w'=>e=.returned (.int .i64 ((dd:Nat):Int))∧w.grownBy w' none)
  (hk1:inB 1970 9999 [Y]=c1)
  (hk2:inB 1 ((dd:Nat):Int) [D]=c2)
  (hk3:inB 0 23 [h]=c3)
  (hk4:inB 0 59 [mi,s]=c4)
  (hw:W.grownBy { w with drawn:=w.drawn+1 } none)
  (hQ:∀ us w',W.grownBy w' none→Q .normal ((fill a [3,4,5,6,7,8,9,10,11,12,13,14,15,16,17,18,19,20,21,22,23,24,25,26,27,28,29,30,31] us).put (some 2) (.bool (((c1&&c2)&&c3)&&c4))) w'):idt_regionC.wp Tryz.prog Q a w:=by
 have hst:StaysAll [isV (.pointer (some ⟨B,0,none⟩)),isV (.int .i64 Y),isI ([Y]),isV (.bool c1),isV (.bool c1),isIf (c1) true (.pointer (some ⟨B,0,none⟩)),isIf (c1) true (.int .i64 Y),isIf (c1) true (.pointer (some ⟨B,1,none⟩)),isIf (c1) true (.int .i64 M),isIf (c1) true (.int .i64 ((dd:Nat):Int)),isIf (c1) true (.pointer (some ⟨B,2,none⟩)),isIf (c1) true (.int .i64 D),isIfI (c1) true ([D]),isIf (c1) true (.bool c2),isV (.bool (c1&&c2)),isV (.bool (c1&&c2)),isIf ((c1&&c2)) true (.pointer (some ⟨B,3,none⟩)),isIf ((c1&&c2)) true (.int .i64 h),isIfI ((c1&&c2)) true ([h]),isIf ((c1&&c2)) true (.bool c3),isV (.bool ((c1&&c2)&&c3)),isV (.bool ((c1&&c2)&&c3)),isIf (((c1&&c2)&&c3)) true (.pointer (some ⟨B,4,none⟩)),isIf (((c1&&c2)&&c3)) true (.int .i64 mi),isIf (((c1&&c2)&&c3)) true (.pointer (some ⟨B,5,none⟩)),isIf (((c1&&c2)&&c3)) true (.int .i64 s),isIfI (((c1&&c2)&&c3)) true ([mi,s]),isIf (((c1&&c2)&&c3)) true (.bool c4),isV (.bool (((c1&&c2)&&c3)&&c4))]:=⟨stays_V _,stays_V _,stays_I _,stays_V _,stays_V _,stays_If _ _ _,stays_If _ _ _,stays_If _ _ _,stays_If _ _ _,stays_If _ _ _,stays_If _ _ _,stays_If _ _ _,stays_IfI _ _ _,stays_If _ _ _,stays_V _,stays_V _,stays_If _ _ _,stays_If _ _ _,stays_IfI _ _ _,stays_If _ _ _,stays_V _,stays_V _,stays_If _ _ _,stays_If _ _ _,stays_If _ _ _,stays_If _ _ _,stays_IfI _ _ _,stays_If _ _ _,stays_V _,trivial⟩
 conv=>arg 2;whnf
 refine wp_region_flow 29 [3,4,5,6,7,8,9,10,11,12,13,14,15,16,17,18,19,20,21,22,23,24,25,26,27,28,29,30,31] (fun w'=>W.grownBy w' none) (fun w w'=>w.grownBy w' none) (flF [isV (.pointer (some ⟨B,0,none⟩)),isV (.int .i64 Y),isI ([Y]),isV (.bool c1),isV (.bool c1),isIf (c1) true (.pointer (some ⟨B,0,none⟩)),isIf (c1) true (.int .i64 Y),isIf (c1) true (.pointer (some ⟨B,1,none⟩)),isIf (c1) true (.int .i64 M),isIf (c1) true (.int .i64 ((dd:Nat):Int)),isIf (c1) true (.pointer (some ⟨B,2,none⟩)),isIf (c1) true (.int .i64 D),isIfI (c1) true ([D]),isIf (c1) true (.bool c2),isV (.bool (c1&&c2)),isV (.bool (c1&&c2)),isIf ((c1&&c2)) true (.pointer (some ⟨B,3,none⟩)),isIf ((c1&&c2)) true (.int .i64 h),isIfI ((c1&&c2)) true ([h]),isIf ((c1&&c2)) true (.bool c3),isV (.bool ((c1&&c2)&&c3)),isV (.bool ((c1&&c2)&&c3)),isIf (((c1&&c2)&&c3)) true (.pointer (some ⟨B,4,none⟩)),isIf (((c1&&c2)&&c3)) true (.int .i64 mi),isIf (((c1&&c2)&&c3)) true (.pointer (some ⟨B,5,none⟩)),isIf (((c1&&c2)&&c3)) true (.int .i64 s),isIfI (((c1&&c2)&&c3)) true ([mi,s]),isIf (((c1&&c2)&&c3)) true (.bool c4),isV (.bool (((c1&&c2)&&c3)&&c4))]) (by kernel_rfl) (by kernel_rfl) (fun _ _ h k=>grown_trans k h) (fun j x w w' hg h=>flF_stays hst j x w w' hg h) hw ?_ ?_
 ·refine ⟨?_,?_,?_,?_,?_,?_,?_,?_,?_,?_,?_,?_,?_,?_,?_,?_,?_,?_,?_,?_,?_,?_,?_,?_,?_,?_,?_,?_,?_,trivial⟩
  ·exact flow_step (fun us w hC hd=>wants_free rfl) (fun us w hC hd=>⟨_,w,fieldA_val rfl ((fill_old (by rfl)).trans h1) (fieldM w B 0 (by decide)),grown_refl _ _,rfl⟩)
  ·exact flow_step (fun us w hC hd=>wants_free rfl) (fun us w hC hd=>⟨_,w,loadc_val rfl ((fill_tmp (by rfl) (by rw[hsz];decide)).trans (hd 0 (by decide))) (loadI (hcl w hC 0 Y rfl)),grown_refl _ _,rfl⟩)
  ·exact flow_step (fun us w hC hd=>wants_free rfl) (fun us w hC hd=>⟨_,_,buildI1_val rfl ((fill_tmp (by rfl) (by rw[hsz];decide)).trans (hd 1 (by decide))),World.grownBy_alloc _ _ _,ints1 w _⟩)
  ·refine flow_call 196 (fun us=>#[.int .i64 1970,.int .i64 9999,us 5]) (fun us w hC hd=>wants_free rfl) (fun us w=>by rw[call_enter rfl (fun _ _=>by simp[go_sem]),List.map_toArray,List.map_cons,List.map_cons,List.map_cons,List.map_nil,eval_const,eval_const,fill_tmp (by rfl) (by rw[hsz];decide)]) (fun us w hC' hd=>?_)
   exact (within_g 1970 9999 (us 5) (hd 2 (by decide)) (by simp) hk1).mono (fun e w' h=>⟨_,h.1,h.2,rfl⟩)
  ·exact flow_step (fun us w hC hd=>wants_free rfl) (fun us w hC hd=>⟨_,w,move_val rfl ((fill_tmp (by rfl) (by rw[hsz];decide)).trans (hd 3 (by decide))),grown_refl _ _,rfl⟩)
  ·rcases Bool.eq_false_or_eq_true (c1) with hg|hg
   ·exact flow_step (fun us w hC hd=>wants_on (d:=7) (b:=true) rfl rfl (by rfl) (by rw[hsz];decide) ((hd 4 (by decide)).trans (by rw[hg]))) (fun us w hC hd=>⟨_,w,fieldA_val rfl ((fill_old (by rfl)).trans h1) (fieldM w B 0 (by decide)),grown_refl _ _,fun _=>rfl⟩)
   ·exact flow_skip (fun us w hC hd=>wants_not (d:=7) (b:=true) rfl rfl (by rfl) (by rw[hsz];decide) ((hd 4 (by decide)).trans (by rw[hg];rfl))) (fun _=>grown_refl _ _) (fun _ _ h=>by rw[hg] at h;cases h)
  ·rcases Bool.eq_false_or_eq_true (c1) with hg|hg
   ·exact flow_step (fun us w hC hd=>wants_on (d:=7) (b:=true) rfl rfl (by rfl) (by rw[hsz];decide) ((hd 4 (by decide)).trans (by rw[hg]))) (fun us w hC hd=>⟨_,w,loadc_val rfl ((fill_tmp (by rfl) (by rw[hsz];decide)).trans (hd 5 (by decide) hg)) (loadI (hcl w hC 0 Y rfl)),grown_refl _ _,fun _=>rfl⟩)
   ·exact flow_skip (fun us w hC hd=>wants_not (d:=7) (b:=true) rfl rfl (by rfl) (by rw[hsz];decide) ((hd 4 (by decide)).trans (by rw[hg];rfl))) (fun _=>grown_refl _ _) (fun _ _ h=>by rw[hg] at h;cases h)
  ·rcases Bool.eq_false_or_eq_true (c1) with hg|hg
   ·exact flow_step (fun us w hC hd=>wants_on (d:=7) (b:=true) rfl rfl (by rfl) (by rw[hsz];decide) ((hd 4 (by decide)).trans (by rw[hg]))) (fun us w hC hd=>⟨_,w,fieldA_val rfl ((fill_old (by rfl)).trans h1) (fieldM w B 1 (by decide)),grown_refl _ _,fun _=>rfl⟩)
   ·exact flow_skip (fun us w hC hd=>wants_not (d:=7) (b:=true) rfl rfl (by rfl) (by rw[hsz];decide) ((hd 4 (by decide)).trans (by rw[hg];rfl))) (fun _=>grown_refl _ _) (fun _ _ h=>by rw[hg] at h;cases h)
  ·rcases Bool.eq_false_or_eq_true (c1) with hg|hg
   ·exact flow_step (fun us w hC hd=>wants_on (d:=7) (b:=true) rfl rfl (by rfl) (by rw[hsz];decide) ((hd 4 (by decide)).trans (by rw[hg]))) (fun us w hC hd=>⟨_,w,loadc_val rfl ((fill_tmp (by rfl) (by rw[hsz];decide)).trans (hd 7 (by decide) hg)) (loadI (hcl w hC 1 M rfl)),grown_refl _ _,fun _=>rfl⟩)
   ·exact flow_skip (fun us w hC hd=>wants_not (d:=7) (b:=true) rfl rfl (by rfl) (by rw[hsz];decide) ((hd 4 (by decide)).trans (by rw[hg];rfl))) (fun _=>grown_refl _ _) (fun _ _ h=>by rw[hg] at h;cases h)
  ·rcases Bool.eq_false_or_eq_true (c1) with hg|hg
   ·refine flow_call 218 (fun us=>#[us 9,us 11]) (fun us w hC hd=>wants_on (d:=7) (b:=true) rfl rfl (by rfl) (by rw[hsz];decide) ((hd 4 (by decide)).trans (by rw[hg]))) (fun us w=>by rw[call_enter rfl (fun _ _=>by simp[go_sem]),List.map_toArray,List.map_cons,List.map_cons,List.map_nil,fill_tmp (by rfl) (by rw[hsz];decide),fill_tmp (by rfl) (by rw[hsz];decide)]) (fun us w hC' hd=>?_)
    rw[show us 9=.int .i64 Y from hd 6 (by decide) hg]
    rw[show us 11=.int .i64 M from hd 8 (by decide) hg]
    exact (hDy w hC').mono (fun e w' h=>⟨_,h.1,h.2,fun _=>rfl⟩)
   ·exact flow_skip (fun us w hC hd=>wants_not (d:=7) (b:=true) rfl rfl (by rfl) (by rw[hsz];decide) ((hd 4 (by decide)).trans (by rw[hg];rfl))) (fun _=>grown_refl _ _) (fun _ _ h=>by rw[hg] at h;cases h)
  ·rcases Bool.eq_false_or_eq_true (c1) with hg|hg
   ·exact flow_step (fun us w hC hd=>wants_on (d:=7) (b:=true) rfl rfl (by rfl) (by rw[hsz];decide) ((hd 4 (by decide)).trans (by rw[hg]))) (fun us w hC hd=>⟨_,w,fieldA_val rfl ((fill_old (by rfl)).trans h1) (fieldM w B 2 (by decide)),grown_refl _ _,fun _=>rfl⟩)
   ·exact flow_skip (fun us w hC hd=>wants_not (d:=7) (b:=true) rfl rfl (by rfl) (by rw[hsz];decide) ((hd 4 (by decide)).trans (by rw[hg];rfl))) (fun _=>grown_refl _ _) (fun _ _ h=>by rw[hg] at h;cases h)
  ·rcases Bool.eq_false_or_eq_true (c1) with hg|hg
   ·exact flow_step (fun us w hC hd=>wants_on (d:=7) (b:=true) rfl rfl (by rfl) (by rw[hsz];decide) ((hd 4 (by decide)).trans (by rw[hg]))) (fun us w hC hd=>⟨_,w,loadc_val rfl ((fill_tmp (by rfl) (by rw[hsz];decide)).trans (hd 10 (by decide) hg)) (loadI (hcl w hC 2 D rfl)),grown_refl _ _,fun _=>rfl⟩)
   ·exact flow_skip (fun us w hC hd=>wants_not (d:=7) (b:=true) rfl rfl (by rfl) (by rw[hsz];decide) ((hd 4 (by decide)).trans (by rw[hg];rfl))) (fun _=>grown_refl _ _) (fun _ _ h=>by rw[hg] at h;cases h)
  ·rcases Bool.eq_false_or_eq_true (c1) with hg|hg
   ·exact flow_step (fun us w hC hd=>wants_on (d:=7) (b:=true) rfl rfl (by rfl) (by rw[hsz];decide) ((hd 4 (by decide)).trans (by rw[hg]))) (fun us w hC hd=>⟨_,_,buildI1_val rfl ((fill_tmp (by rfl) (by rw[hsz];decide)).trans (hd 11 (by decide) hg)),World.grownBy_alloc _ _ _,fun _=>ints1 w _⟩)
   ·exact flow_skip (fun us w hC hd=>wants_not (d:=7) (b:=true) rfl rfl (by rfl) (by rw[hsz];decide) ((hd 4 (by decide)).trans (by rw[hg];rfl))) (fun _=>grown_refl _ _) (fun _ _ h=>by rw[hg] at h;cases h)
  ·rcases Bool.eq_false_or_eq_true (c1) with hg|hg
   ·refine flow_call 196 (fun us=>#[.int .i64 1,us 12,us 15]) (fun us w hC hd=>wants_on (d:=7) (b:=true) rfl rfl (by rfl) (by rw[hsz];decide) ((hd 4 (by decide)).trans (by rw[hg]))) (fun us w=>by rw[call_enter rfl (fun _ _=>by simp[go_sem]),List.map_toArray,List.map_cons,List.map_cons,List.map_cons,List.map_nil,eval_const,fill_tmp (by rfl) (by rw[hsz];decide),fill_tmp (by rfl) (by rw[hsz];decide)]) (fun us w hC' hd=>?_)
    rw[show us 12=.int .i64 ((dd:Nat):Int) from hd 9 (by decide) hg]
    exact (within_g 1 ((dd:Nat):Int) (us 15) (hd 12 (by decide) hg) (by simp) hk2).mono (fun e w' h=>⟨_,h.1,h.2,fun _=>rfl⟩)
   ·exact flow_skip (fun us w hC hd=>wants_not (d:=7) (b:=true) rfl rfl (by rfl) (by rw[hsz];decide) ((hd 4 (by decide)).trans (by rw[hg];rfl))) (fun _=>grown_refl _ _) (fun _ _ h=>by rw[hg] at h;cases h)
  ·rcases Bool.eq_false_or_eq_true (c1) with hg|hg
   ·exact flow_step (fun us w hC hd=>wants_free rfl) (fun us w hC hd=>⟨_,w,pick_true rfl ((fill_tmp (by rfl) (by rw[hsz];decide)).trans ((hd 4 (by decide)).trans (by rw[hg]))) ((fill_tmp (by rfl) (by rw[hsz];decide)).trans (hd 13 (by decide) hg)),grown_refl _ _,(by rw[hg];rfl:Value.bool (c2)=.bool (c1&&c2))⟩)
   ·exact flow_step (fun us w hC hd=>wants_free rfl) (fun us w hC hd=>⟨_,w,pick_false rfl ((fill_tmp (by rfl) (by rw[hsz];decide)).trans ((hd 4 (by decide)).trans (by rw[hg]))) rfl,grown_refl _ _,(by rw[hg];rfl:Value.bool (false)=.bool (c1&&c2))⟩)
  ·exact flow_step (fun us w hC hd=>wants_free rfl) (fun us w hC hd=>⟨_,w,move_val rfl ((fill_tmp (by rfl) (by rw[hsz];decide)).trans (hd 14 (by decide))),grown_refl _ _,rfl⟩)
  ·rcases Bool.eq_false_or_eq_true ((c1&&c2)) with hg|hg
   ·exact flow_step (fun us w hC hd=>wants_on (d:=18) (b:=true) rfl rfl (by rfl) (by rw[hsz];decide) ((hd 15 (by decide)).trans (by rw[hg]))) (fun us w hC hd=>⟨_,w,fieldA_val rfl ((fill_old (by rfl)).trans h1) (fieldM w B 3 (by decide)),grown_refl _ _,fun _=>rfl⟩)
   ·exact flow_skip (fun us w hC hd=>wants_not (d:=18) (b:=true) rfl rfl (by rfl) (by rw[hsz];decide) ((hd 15 (by decide)).trans (by rw[hg];rfl))) (fun _=>grown_refl _ _) (fun _ _ h=>by rw[hg] at h;cases h)
  ·rcases Bool.eq_false_or_eq_true ((c1&&c2)) with hg|hg
   ·exact flow_step (fun us w hC hd=>wants_on (d:=18) (b:=true) rfl rfl (by rfl) (by rw[hsz];decide) ((hd 15 (by decide)).trans (by rw[hg]))) (fun us w hC hd=>⟨_,w,loadc_val rfl ((fill_tmp (by rfl) (by rw[hsz];decide)).trans (hd 16 (by decide) hg)) (loadI (hcl w hC 3 h rfl)),grown_refl _ _,fun _=>rfl⟩)
   ·exact flow_skip (fun us w hC hd=>wants_not (d:=18) (b:=true) rfl rfl (by rfl) (by rw[hsz];decide) ((hd 15 (by decide)).trans (by rw[hg];rfl))) (fun _=>grown_refl _ _) (fun _ _ h=>by rw[hg] at h;cases h)
  ·rcases Bool.eq_false_or_eq_true ((c1&&c2)) with hg|hg
   ·exact flow_step (fun us w hC hd=>wants_on (d:=18) (b:=true) rfl rfl (by rfl) (by rw[hsz];decide) ((hd 15 (by decide)).trans (by rw[hg]))) (fun us w hC hd=>⟨_,_,buildI1_val rfl ((fill_tmp (by rfl) (by rw[hsz];decide)).trans (hd 17 (by decide) hg)),World.grownBy_alloc _ _ _,fun _=>ints1 w _⟩)
   ·exact flow_skip (fun us w hC hd=>wants_not (d:=18) (b:=true) rfl rfl (by rfl) (by rw[hsz];decide) ((hd 15 (by decide)).trans (by rw[hg];rfl))) (fun _=>grown_refl _ _) (fun _ _ h=>by rw[hg] at h;cases h)
  ·rcases Bool.eq_false_or_eq_true ((c1&&c2)) with hg|hg
   ·refine flow_call 196 (fun us=>#[.int .i64 0,.int .i64 23,us 21]) (fun us w hC hd=>wants_on (d:=18) (b:=true) rfl rfl (by rfl) (by rw[hsz];decide) ((hd 15 (by decide)).trans (by rw[hg]))) (fun us w=>by rw[call_enter rfl (fun _ _=>by simp[go_sem]),List.map_toArray,List.map_cons,List.map_cons,List.map_cons,List.map_nil,eval_const,eval_const,fill_tmp (by rfl) (by rw[hsz];decide)]) (fun us w hC' hd=>?_)
    exact (within_g 0 23 (us 21) (hd 18 (by decide) hg) (by simp) hk3).mono (fun e w' h=>⟨_,h.1,h.2,fun _=>rfl⟩)
   ·exact flow_skip (fun us w hC hd=>wants_not (d:=18) (b:=true) rfl rfl (by rfl) (by rw[hsz];decide) ((hd 15 (by decide)).trans (by rw[hg];rfl))) (fun _=>grown_refl _ _) (fun _ _ h=>by rw[hg] at h;cases h)
  ·rcases Bool.eq_false_or_eq_true ((c1&&c2)) with hg|hg
   ·exact flow_step (fun us w hC hd=>wants_free rfl) (fun us w hC hd=>⟨_,w,pick_true rfl ((fill_tmp (by rfl) (by rw[hsz];decide)).trans ((hd 15 (by decide)).trans (by rw[hg]))) ((fill_tmp (by rfl) (by rw[hsz];decide)).trans (hd 19 (by decide) hg)),grown_refl _ _,(by rw[hg];rfl:Value.bool (c3)=.bool ((c1&&c2)&&c3))⟩)
   ·exact flow_step (fun us w hC hd=>wants_free rfl) (fun us w hC hd=>⟨_,w,pick_false rfl ((fill_tmp (by rfl) (by rw[hsz];decide)).trans ((hd 15 (by decide)).trans (by rw[hg]))) rfl,grown_refl _ _,(by rw[hg];rfl:Value.bool (false)=.bool ((c1&&c2)&&c3))⟩)
  ·exact flow_step (fun us w hC hd=>wants_free rfl) (fun us w hC hd=>⟨_,w,move_val rfl ((fill_tmp (by rfl) (by rw[hsz];decide)).trans (hd 20 (by decide))),grown_refl _ _,rfl⟩)
  ·rcases Bool.eq_false_or_eq_true (((c1&&c2)&&c3)) with hg|hg
   ·exact flow_step (fun us w hC hd=>wants_on (d:=24) (b:=true) rfl rfl (by rfl) (by rw[hsz];decide) ((hd 21 (by decide)).trans (by rw[hg]))) (fun us w hC hd=>⟨_,w,fieldA_val rfl ((fill_old (by rfl)).trans h1) (fieldM w B 4 (by decide)),grown_refl _ _,fun _=>rfl⟩)
   ·exact flow_skip (fun us w hC hd=>wants_not (d:=24) (b:=true) rfl rfl (by rfl) (by rw[hsz];decide) ((hd 21 (by decide)).trans (by rw[hg];rfl))) (fun _=>grown_refl _ _) (fun _ _ h=>by rw[hg] at h;cases h)
  ·rcases Bool.eq_false_or_eq_true (((c1&&c2)&&c3)) with hg|hg
   ·exact flow_step (fun us w hC hd=>wants_on (d:=24) (b:=true) rfl rfl (by rfl) (by rw[hsz];decide) ((hd 21 (by decide)).trans (by rw[hg]))) (fun us w hC hd=>⟨_,w,loadc_val rfl ((fill_tmp (by rfl) (by rw[hsz];decide)).trans (hd 22 (by decide) hg)) (loadI (hcl w hC 4 mi rfl)),grown_refl _ _,fun _=>rfl⟩)
   ·exact flow_skip (fun us w hC hd=>wants_not (d:=24) (b:=true) rfl rfl (by rfl) (by rw[hsz];decide) ((hd 21 (by decide)).trans (by rw[hg];rfl))) (fun _=>grown_refl _ _) (fun _ _ h=>by rw[hg] at h;cases h)
  ·rcases Bool.eq_false_or_eq_true (((c1&&c2)&&c3)) with hg|hg
   ·exact flow_step (fun us w hC hd=>wants_on (d:=24) (b:=true) rfl rfl (by rfl) (by rw[hsz];decide) ((hd 21 (by decide)).trans (by rw[hg]))) (fun us w hC hd=>⟨_,w,fieldA_val rfl ((fill_old (by rfl)).trans h1) (fieldM w B 5 (by decide)),grown_refl _ _,fun _=>rfl⟩)
   ·exact flow_skip (fun us w hC hd=>wants_not (d:=24) (b:=true) rfl rfl (by rfl) (by rw[hsz];decide) ((hd 21 (by decide)).trans (by rw[hg];rfl))) (fun _=>grown_refl _ _) (fun _ _ h=>by rw[hg] at h;cases h)
  ·rcases Bool.eq_false_or_eq_true (((c1&&c2)&&c3)) with hg|hg
   ·exact flow_step (fun us w hC hd=>wants_on (d:=24) (b:=true) rfl rfl (by rfl) (by rw[hsz];decide) ((hd 21 (by decide)).trans (by rw[hg]))) (fun us w hC hd=>⟨_,w,loadc_val rfl ((fill_tmp (by rfl) (by rw[hsz];decide)).trans (hd 24 (by decide) hg)) (loadI (hcl w hC 5 s rfl)),grown_refl _ _,fun _=>rfl⟩)
   ·exact flow_skip (fun us w hC hd=>wants_not (d:=24) (b:=true) rfl rfl (by rfl) (by rw[hsz];decide) ((hd 21 (by decide)).trans (by rw[hg];rfl))) (fun _=>grown_refl _ _) (fun _ _ h=>by rw[hg] at h;cases h)
  ·rcases Bool.eq_false_or_eq_true (((c1&&c2)&&c3)) with hg|hg
   ·exact flow_step (fun us w hC hd=>wants_on (d:=24) (b:=true) rfl rfl (by rfl) (by rw[hsz];decide) ((hd 21 (by decide)).trans (by rw[hg]))) (fun us w hC hd=>⟨_,_,buildI2_val rfl ((fill_tmp (by rfl) (by rw[hsz];decide)).trans (hd 23 (by decide) hg)) ((fill_tmp (by rfl) (by rw[hsz];decide)).trans (hd 25 (by decide) hg)),World.grownBy_alloc _ _ _,fun _=>ints2 w _ _⟩)
   ·exact flow_skip (fun us w hC hd=>wants_not (d:=24) (b:=true) rfl rfl (by rfl) (by rw[hsz];decide) ((hd 21 (by decide)).trans (by rw[hg];rfl))) (fun _=>grown_refl _ _) (fun _ _ h=>by rw[hg] at h;cases h)
  ·rcases Bool.eq_false_or_eq_true (((c1&&c2)&&c3)) with hg|hg
   ·refine flow_call 196 (fun us=>#[.int .i64 0,.int .i64 59,us 29]) (fun us w hC hd=>wants_on (d:=24) (b:=true) rfl rfl (by rfl) (by rw[hsz];decide) ((hd 21 (by decide)).trans (by rw[hg]))) (fun us w=>by rw[call_enter rfl (fun _ _=>by simp[go_sem]),List.map_toArray,List.map_cons,List.map_cons,List.map_cons,List.map_nil,eval_const,eval_const,fill_tmp (by rfl) (by rw[hsz];decide)]) (fun us w hC' hd=>?_)
    exact (within_g 0 59 (us 29) (hd 26 (by decide) hg) (by simp) hk4).mono (fun e w' h=>⟨_,h.1,h.2,fun _=>rfl⟩)
   ·exact flow_skip (fun us w hC hd=>wants_not (d:=24) (b:=true) rfl rfl (by rfl) (by rw[hsz];decide) ((hd 21 (by decide)).trans (by rw[hg];rfl))) (fun _=>grown_refl _ _) (fun _ _ h=>by rw[hg] at h;cases h)
  ·rcases Bool.eq_false_or_eq_true (((c1&&c2)&&c3)) with hg|hg
   ·exact flow_step (fun us w hC hd=>wants_free rfl) (fun us w hC hd=>⟨_,w,pick_true rfl ((fill_tmp (by rfl) (by rw[hsz];decide)).trans ((hd 21 (by decide)).trans (by rw[hg]))) ((fill_tmp (by rfl) (by rw[hsz];decide)).trans (hd 27 (by decide) hg)),grown_refl _ _,(by rw[hg];rfl:Value.bool (c4)=.bool (((c1&&c2)&&c3)&&c4))⟩)
   ·exact flow_step (fun us w hC hd=>wants_free rfl) (fun us w hC hd=>⟨_,w,pick_false rfl ((fill_tmp (by rfl) (by rw[hsz];decide)).trans ((hd 21 (by decide)).trans (by rw[hg]))) rfl,grown_refl _ _,(by rw[hg];rfl:Value.bool (false)=.bool (((c1&&c2)&&c3)&&c4))⟩)
 ·intro us w' hC' hd
  exact wpList_last rfl (assign_val rfl ((fill_tmp (by rfl) (by rw[hsz];decide)).trans (hd 28 (by decide)))) (hQ us w' hC')
noncomputable def sec_regionC:Code:=regionIn Tryz.f163.body 3
theorem sec_region (a:Act) (B:Nat) (Y M D h mi s A r1 r2 r3 r4 r5 r6:Int) (DC:Array Value) (c0:Bool) (W w:World) (Q:Exit→Act→World→Prop) (hsz:a.tmps.size=22)
  (h1:a.eval (.tmp 1)=.pointer (some ⟨B,0,none⟩))
  (hcl:∀ w,W.grownBy w none→∀ k z,[Y,M,D,h,mi,s][k]?=some z→w.cell? ⟨B,k,none⟩=some (.int .i64 z))
  (hrow:∀ w,W.grownBy w none→w.heap[B]?=some (.cells DC 217 (0,0)))
  (hinf:(Tryz.prog.info? 217).map (·.size)=some DC.size)
  (hDd:∀ w,W.grownBy w none→Calls Tryz.prog 198 #[.agg DC] w fun e w'=>e=.returned (.int .i64 A)∧w.grownBy w' none)
  (hw1:IntKind.i64.wrap (A*86400)=r1)
  (hw2:IntKind.i64.wrap (h*3600)=r2)
  (hw3:IntKind.i64.wrap (r1+r2)=r3)
  (hw4:IntKind.i64.wrap (mi*60)=r4)
  (hw5:IntKind.i64.wrap (r3+r4)=r5)
  (hw6:IntKind.i64.wrap (r5+s)=r6)
  (hw:W.grownBy { w with drawn:=w.drawn+1 } none)
  (hQ:∀ us w',W.grownBy w' none→us 2=.int .i64 r6→Q .normal ((fill a [8,9,10,11,12,13,14,15,16,17,18,19,20,21,2] us).put (some 3) (.nilIface)) w'):sec_regionC.wp Tryz.prog Q a w:=by
 have hst:StaysAll [isV (.agg DC),isV (.int .i64 A),isV (.int .i64 r1),isV (.pointer (some ⟨B,3,none⟩)),isV (.int .i64 h),isV (.int .i64 r2),isV (.int .i64 r3),isV (.pointer (some ⟨B,4,none⟩)),isV (.int .i64 mi),isV (.int .i64 r4),isV (.int .i64 r5),isV (.pointer (some ⟨B,5,none⟩)),isV (.int .i64 s),isV (.int .i64 r6),isV (.int .i64 r6)]:=⟨stays_V _,stays_V _,stays_V _,stays_V _,stays_V _,stays_V _,stays_V _,stays_V _,stays_V _,stays_V _,stays_V _,stays_V _,stays_V _,stays_V _,stays_V _,trivial⟩
 conv=>arg 2;whnf
 refine wp_region_flow 15 [8,9,10,11,12,13,14,15,16,17,18,19,20,21,2] (fun w'=>W.grownBy w' none) (fun w w'=>w.grownBy w' none) (flF [isV (.agg DC),isV (.int .i64 A),isV (.int .i64 r1),isV (.pointer (some ⟨B,3,none⟩)),isV (.int .i64 h),isV (.int .i64 r2),isV (.int .i64 r3),isV (.pointer (some ⟨B,4,none⟩)),isV (.int .i64 mi),isV (.int .i64 r4),isV (.int .i64 r5),isV (.pointer (some ⟨B,5,none⟩)),isV (.int .i64 s),isV (.int .i64 r6),isV (.int .i64 r6)]) (by kernel_rfl) (by kernel_rfl) (fun _ _ h k=>grown_trans k h) (fun j x w w' hg h=>flF_stays hst j x w w' hg h) hw ?_ ?_
 ·refine ⟨?_,?_,?_,?_,?_,?_,?_,?_,?_,?_,?_,?_,?_,?_,?_,trivial⟩
  ·exact flow_step (fun us w hC hd=>wants_free rfl) (fun us w hC hd=>⟨_,w,load_val rfl ((fill_old (by rfl)).trans h1) (hrow w hC) Tryz.underlying217 rfl hinf,grown_refl _ _,rfl⟩)
  ·refine flow_call 198 (fun us=>#[us 8]) (fun us w hC hd=>wants_free rfl) (fun us w=>by rw[call_enter rfl (fun _ _=>by simp[go_sem]),List.map_toArray,List.map_cons,List.map_nil,fill_tmp (by rfl) (by rw[hsz];decide)]) (fun us w hC' hd=>?_)
   rw[show us 8=.agg DC from hd 0 (by decide)]
   exact (hDd w hC').mono (fun e w' h=>⟨_,h.1,h.2,rfl⟩)
  ·exact flow_step (fun us w hC hd=>wants_free rfl) (fun us w hC hd=>⟨_,w,(mulint_val rfl ((fill_tmp (by rfl) (by rw[hsz];decide)).trans (hd 1 (by decide))) rfl).trans (by rw[hw1]),grown_refl _ _,rfl⟩)
  ·exact flow_step (fun us w hC hd=>wants_free rfl) (fun us w hC hd=>⟨_,w,fieldA_val rfl ((fill_old (by rfl)).trans h1) (fieldM w B 3 (by decide)),grown_refl _ _,rfl⟩)
  ·exact flow_step (fun us w hC hd=>wants_free rfl) (fun us w hC hd=>⟨_,w,loadc_val rfl ((fill_tmp (by rfl) (by rw[hsz];decide)).trans (hd 3 (by decide))) (loadI (hcl w hC 3 h rfl)),grown_refl _ _,rfl⟩)
  ·exact flow_step (fun us w hC hd=>wants_free rfl) (fun us w hC hd=>⟨_,w,(mulint_val rfl ((fill_tmp (by rfl) (by rw[hsz];decide)).trans (hd 4 (by decide))) rfl).trans (by rw[hw2]),grown_refl _ _,rfl⟩)
  ·exact flow_step (fun us w hC hd=>wants_free rfl) (fun us w hC hd=>⟨_,w,(addint_val rfl ((fill_tmp (by rfl) (by rw[hsz];decide)).trans (hd 2 (by decide))) ((fill_tmp (by rfl) (by rw[hsz];decide)).trans (hd 5 (by decide)))).trans (by rw[hw3]),grown_refl _ _,rfl⟩)
  ·exact flow_step (fun us w hC hd=>wants_free rfl) (fun us w hC hd=>⟨_,w,fieldA_val rfl ((fill_old (by rfl)).trans h1) (fieldM w B 4 (by decide)),grown_refl _ _,rfl⟩)
  ·exact flow_step (fun us w hC hd=>wants_free rfl) (fun us w hC hd=>⟨_,w,loadc_val rfl ((fill_tmp (by rfl) (by rw[hsz];decide)).trans (hd 7 (by decide))) (loadI (hcl w hC 4 mi rfl)),grown_refl _ _,rfl⟩)
  ·exact flow_step (fun us w hC hd=>wants_free rfl) (fun us w hC hd=>⟨_,w,(mulint_val rfl ((fill_tmp (by rfl) (by rw[hsz];decide)).trans (hd 8 (by decide))) rfl).trans (by rw[hw4]),grown_refl _ _,rfl⟩)
  ·exact flow_step (fun us w hC hd=>wants_free rfl) (fun us w hC hd=>⟨_,w,(addint_val rfl ((fill_tmp (by rfl) (by rw[hsz];decide)).trans (hd 6 (by decide))) ((fill_tmp (by rfl) (by rw[hsz];decide)).trans (hd 9 (by decide)))).trans (by rw[hw5]),grown_refl _ _,rfl⟩)
  ·exact flow_step (fun us w hC hd=>wants_free rfl) (fun us w hC hd=>⟨_,w,fieldA_val rfl ((fill_old (by rfl)).trans h1) (fieldM w B 5 (by decide)),grown_refl _ _,rfl⟩)
  ·exact flow_step (fun us w hC hd=>wants_free rfl) (fun us w hC hd=>⟨_,w,loadc_val rfl ((fill_tmp (by rfl) (by rw[hsz];decide)).trans (hd 11 (by decide))) (loadI (hcl w hC 5 s rfl)),grown_refl _ _,rfl⟩)
  ·exact flow_step (fun us w hC hd=>wants_free rfl) (fun us w hC hd=>⟨_,w,(addint_val rfl ((fill_tmp (by rfl) (by rw[hsz];decide)).trans (hd 10 (by decide))) ((fill_tmp (by rfl) (by rw[hsz];decide)).trans (hd 12 (by decide)))).trans (by rw[hw6]),grown_refl _ _,rfl⟩)
  ·exact flow_step (fun us w hC hd=>wants_free rfl) (fun us w hC hd=>⟨_,w,assign_val rfl ((fill_tmp (by rfl) (by rw[hsz];decide)).trans (hd 13 (by decide))),grown_refl _ _,rfl⟩)
 ·intro us w' hC' hd
  exact wpList_last rfl (assign_val rfl rfl) (hQ us w' hC' (hd 14 (by decide)))
theorem stored {W1 w2:World} {z DC:Array Value} {T:TypeId} (hg:W1.grownBy w2 none):W1.grownBy ((w2.alloc (.cells z T (0,0))).setRow w2.heap.size DC) none∧w2.grownBy ((w2.alloc (.cells z T (0,0))).setRow w2.heap.size DC) none∧((w2.alloc (.cells z T (0,0))).setRow w2.heap.size DC).heap[w2.heap.size]?=some (.cells DC T (0,0)) :=
 ⟨grown_setRow (grown_alloc hg _) hg.size _,grown_setRow (World.grownBy_alloc _ _ _) (Nat.le_refl _) _,setRow_heap _ _ _ _ _ _ (alloc_at w2 _)⟩
theorem rightI_in (Y M D h mi s:Int):Cal.rightI ⟨Y,M,D,h,mi,s⟩=(((inB 1970 9999 [Y]&&inB 1 ((Cal.daysI Y M:Nat):Int) [D])&&inB 0 23 [h])&&inB 0 59 [mi,s]):=by
 have hdd:(M<1∨12<M)→Cal.daysI Y M=0:=fun h=>by rw[Cal.daysI,if_pos h]
 rw[Bool.eq_iff_iff,Cal.rightI_iff,inB_one,inB_one,inB_one,inB_two]
 simp only[Bool.and_eq_true,decide_eq_true_eq]
 generalize Cal.daysI Y M=dd at *
 omega
theorem isDate_any (d:Cal.DI) (w:World) (hLn:Lens w):Calls Tryz.prog 197 #[dV d] w fun e w'=>e=.returned (.bool (Cal.rightI d))∧w.grownBy w' none:=by
 have HD:=hid (fun W hW=>mDays_any d.Y d.M W (hLn.grown (w':=W) hW))
 obtain ⟨Y,M,D,h,mi,s⟩:=d
 have HR:=hid (rightI_in Y M D h mi s)
 have HC:=hid (fun W hg=>dCell (W:=W) (d:=⟨Y,M,D,h,mi,s⟩) (alloc_at w (.cells #[.int .i64 Y,.int .i64 M,.int .i64 D,.int .i64 h,.int .i64 mi,.int .i64 s] 217)) hg)
 generalize Cal.daysI Y M=dd at *
 have HG0:=hid (World.grownBy_alloc w (.cells #[.int .i64 Y,.int .i64 M,.int .i64 D,.int .i64 h,.int .i64 mi,.int .i64 s] 217) none)
 go_enter Tryz.func197,Tryz.ntmps197
 go_wp2
 refine idt_region _ w.heap.size Y M D h mi s dd _ _ _ _ (w.alloc (.cells #[.int .i64 Y,.int .i64 M,.int .i64 D,.int .i64 h,.int .i64 mi,.int .i64 s] 217)) _ _ rfl rfl (fun W hW=>HC.out W hW) (fun W hW=>HD.out W (grown_trans HG0.out hW)) rfl rfl rfl rfl ⟨rfl,rfl,rfl,Nat.le_refl _,fun _ _ _=>rfl⟩ (fun us w3 hg3=>?_)
 simp only[fill_cons,fill_nil,Act.put,List.setIfInBounds_toArray,List.set_cons_succ,List.set_cons_zero]
 have HG:=hid (grown_trans HG0.out hg3)
 rw[←HR.out]
 clear hg3
 go_wp2
 go_ret
 exact ⟨rfl,HG.out⟩
theorem clockI {N h mi s:Int} (h0:0≤N∧N≤3000000) (h1:0≤h∧h≤23) (h2:0≤mi∧mi≤59) (h3:0≤s∧s≤59) :
  IntKind.i64.wrap (N*86400)=N*86400∧IntKind.i64.wrap (h*3600)=h*3600∧IntKind.i64.wrap (N*86400+h*3600)=N*86400+h*3600∧IntKind.i64.wrap (mi*60)=mi*60∧IntKind.i64.wrap (N*86400+h*3600+mi*60)=N*86400+h*3600+mi*60∧IntKind.i64.wrap (N*86400+h*3600+mi*60+s)=N*86400+h*3600+mi*60+s:=by
 simp only[IntKind.wrap,IntKind.bits,IntKind.signed]
 simp
 omega
theorem mSec_any (A:Nat→Addr) (W0:World) (hE:AllErrs W0 A) (hL:Lens W0):MoSec A W0:=by
 intro d w _ hg
 have HIs:=hid (fun W hW=>isDate_any d W (hL.grown (grown_trans hg hW)))
 have HErr:=hid (fun W hW=>err_range (hE.grown (w':=W) (grown_trans hg hW)))
 have HI1:Hid ((Tryz.prog.info? 217).map (·.size)=some 6):=hid (by kernel_rfl)
 obtain ⟨DC,hDC⟩:∃ DC:Array Value,DC=#[.int .i64 d.Y,.int .i64 d.M,.int .i64 d.D,.int .i64 d.h,.int .i64 d.mi,.int .i64 d.s]:=⟨_,rfl⟩
 have HDs:Hid (DC.size=6):=hid (by rw[hDC];rfl)
 have hdv:dV d=.agg DC:=by rw[hDC]
 obtain ⟨W1,hW1⟩:∃ W1:World,W1=w.alloc (.cells DC 217):=⟨_,rfl⟩
 have HGW:Hid (w.grownBy W1 none):=hid (by rw[hW1];exact World.grownBy_alloc _ _ _)
 have HR1:Hid (∀ W,W1.grownBy W none→W.heap[w.heap.size]?=some (.cells DC 217 (0,0))):=hid (fun W hW=>by
  have h:W1.heap[w.heap.size]?=some (.cells DC 217 (0,0)):=by rw[hW1];exact alloc_at w _
  exact (hW.block _ (blk_lt h) (by simp)).trans h)
 have HR2:=hid (HR1.out W1 (grown_refl _ _))
 have HW1:=hid hW1
 have HDC:=hid hDC
 by_cases hr:Cal.rightI d=true
 ·obtain ⟨hrd,hti⟩:=Cal.right_of hr
  rw[if_pos hr]
  rw[hr] at HIs
  have HDd:=hid (fun W hW=>dayOfDate_any d.toD hrd W (hL.grown (grown_trans hg hW)))
  rw[hti,hdv] at HDd
  have hcl:∀ W,W1.grownBy W none→∀ k z,[d.Y,d.M,d.D,d.h,d.mi,d.s][k]?=some z→W.cell? ⟨w.heap.size,k,none⟩=some (.int .i64 z):=fun W hW=>by
   have h1:=HR1.out W hW
   rw[hDC] at h1
   exact dCell (d:=d) h1 (grown_refl _ _)
  have HCl:=hid hcl
  have hN:Cal.dayOf d.toD≤3000000:=by
   have:=Cal.sec_le hrd
   unfold Cal.sec at this
   omega
  have hrb:=(Cal.rightI_iff d).1 hr
  have HK:=hid (clockI (N:=((Cal.dayOf d.toD:Nat):Int)) (h:=d.h) (mi:=d.mi) (s:=d.s) ⟨by omega,by omega⟩ hrb.2.2.2.1 hrb.2.2.2.2.1 hrb.2.2.2.2.2)
  have HS:Hid (((Cal.dayOf d.toD:Nat):Int)*86400+d.h*3600+d.mi*60+d.s=((Cal.sec d.toD:Nat):Int)):=hid (by
   unfold Cal.sec Cal.clock Cal.DI.toD
   simp only
   omega)
  rw[hdv] at HIs ⊢
  generalize ((Cal.sec d.toD:Nat):Int)=SEC at *
  generalize Cal.dayOf d.toD=N at *
  clear hN hrb hrd hti hcl hdv hDC hW1 hr
  go_enter Tryz.func163,Tryz.ntmps163
  go_wp2_with (first
   |(rw[←HW1.out];refine wpList_load_row (by rfl) 217 (.tmp 1) (by rfl) w.heap.size (by rfl) _ DC (0,0) _ HR2.out Tryz.underlying217 (by rfl) (by rw[HDs.out];exact HI1.out) ?_)
   |(go_at_call 197;refine (HIs.out _ HGW.out).mono ?_;rintro e w2 ⟨rfl,hg2⟩;have HG2:=hid hg2;clear hg2))
  refine sec_region _ w.heap.size d.Y d.M d.D d.h d.mi d.s (N:Int) _ _ _ _ _ _ DC true W1 _ _ rfl rfl (fun W hW=>HCl.out W hW) (fun W hW=>HR1.out W hW) (by rw[HDs.out];exact HI1.out) (fun W hW=>HDd.out W (grown_trans HGW.out hW)) HK.out.1 HK.out.2.1 HK.out.2.2.1 HK.out.2.2.2.1 HK.out.2.2.2.2.1 HK.out.2.2.2.2.2 (grown_trans HG2.out ⟨rfl,rfl,rfl,Nat.le_refl _,fun _ _ _=>rfl⟩) (fun us w3 hg3 hus=>?_)
  simp only[fill_cons,fill_nil,Act.put,List.setIfInBounds_toArray,List.set_cons_succ,List.set_cons_zero]
  rw[hus,HS.out]
  have HG3:=hid hg3
  clear hg3 hus
  go_wp2
  go_ret2
  exact ⟨grown_trans HGW.out HG3.out,rfl⟩
 ·have hf:Cal.rightI d=false:=by rw[←Bool.not_eq_true];exact hr
  rw[if_neg hr]
  rw[hf] at HIs
  rw[hdv] at HIs ⊢
  clear hdv hDC hW1 hr hf
  go_enter Tryz.func163,Tryz.ntmps163
  go_wp2_with (first
   |(rw[←HW1.out];refine wpList_load_row (by rfl) 217 (.tmp 1) (by rfl) w.heap.size (by rfl) _ DC (0,0) _ HR2.out Tryz.underlying217 (by rfl) (by rw[HDs.out];exact HI1.out) ?_)
   |(go_at_call 197;refine (HIs.out _ HGW.out).mono ?_;rintro e w2 ⟨rfl,hg2⟩;have HG2:=hid (grown_trans HGW.out hg2);have he:=HErr.out w2 HG2.out;clear hg2))
  go_quiet (fail)
  go_wp2
  go_ret2
  exact ⟨grown_drewN HG2.out _,rfl⟩
theorem fig_in (c:Nat):inB 48 57 [(c:Int)]=Cal.fig c:=by
 rw[inB_one,Cal.fig,Bool.eq_iff_iff]
 simp only[Bool.and_eq_true,decide_eq_true_eq]
 omega
def isBodyL (l:List Nat):Bool:=decide (l.length=15)&&(decide (l.getD 14 0=90)&&(l.take 14).all Cal.fig)
theorem isBodyL_false {l:List Nat} (k:Nat) (hk:k<14) (hl:l.length=15) (h:Cal.fig (l.getD k 0)=false):isBodyL l=false:=by
 have:(l.take 14).all Cal.fig=false:=by
  rw[List.all_eq_false]
  refine ⟨l.getD k 0,?_,by rw[h];decide⟩
  have h1:k<(l.take 14).length:=by rw[List.length_take];omega
  have:(l.take 14)[k]=l.getD k 0:=by rw[List.getElem_take,List.getD_eq_getElem?_getD,List.getElem?_eq_getElem (by omega)];rfl
  rw[←this]
  exact List.getElem_mem h1
 rw[isBodyL,this,Bool.and_false,Bool.and_false]
theorem isBodyL_true {l:List Nat} (hl:l.length=15) (h90:l.getD 14 0=90) (h:∀ k,k<14→Cal.fig (l.getD k 0)=true):isBodyL l=true:=by
 have:(l.take 14).all Cal.fig=true:=by
  rw[List.all_eq_true]
  intro x hx
  obtain ⟨k,hk,rfl⟩:=List.getElem_of_mem hx
  have hk2:k<14:=by rw[List.length_take] at hk;omega
  have:=h k hk2
  rw[List.getD_eq_getElem?_getD,List.getElem?_eq_getElem (by omega)] at this
  rw[List.getElem_take]
  exact this
 rw[isBodyL,this,decide_eq_true hl,decide_eq_true h90];rfl
theorem isBody_any (v:Value) (l:List Nat) (w:World) (h:Bytes w v l) (hl:l.length≤1000000) :
  Calls Tryz.prog 161 #[v] w fun e w'=>e=.returned (.bool (isBodyL l))∧w.grownBy w' none:=by
 obtain ⟨hb,a,sb,so,c,rfl,hc,ha,hcell⟩:=h
 by_cases h15:l.length=15
 ·obtain ⟨rfl,hsb⟩:=ha (by omega)
  have c14:=hcell 14 (by omega)
  by_cases h90:l.getD 14 0=90
  ·have HT:Hid ((∀ k,k<14→Cal.fig (l.getD k 0)=true)→isBodyL l=true):=hid (isBodyL_true h15 h90)
   have HF:Hid (∀ k,k<14→Cal.fig (l.getD k 0)=false→isBodyL l=false):=hid (fun k hk=>isBodyL_false k hk h15)
   have HC:Hid (∀ W,w.grownBy W none→∀ j,j<14→W.cell? ⟨sb,so+j,none⟩=some (.int .u8 ((l.getD j 0:Nat):Int))):=hid (fun W hW j hj=>by
    rw[World.cell?_of_block (hW.block sb hsb (by simp))];exact hcell j (by omega))
   have HB:Hid (∀ j,l.getD j 0<256):=hid (fun j=>by
    rcases Nat.lt_or_ge j l.length with h|h
    ·rw[List.getD_eq_getElem?_getD,List.getElem?_eq_getElem h];exact hb _ (List.getElem_mem h)
    ·rw[List.getD_eq_getElem?_getD,List.getElem?_eq_none h];decide)
   rw[h90] at c14
   rw[h15]
   rw[h15] at hc
   generalize isBodyL l=D at *
   clear h15 h90 hb ha hcell hl
   go_enter Tryz.func161,Tryz.ntmps161
   go_wp2
   clear c14
   go_loopw [17] (fun i wr=>∃ k:Nat,k≤14∧i=.int .i64 k∧w.grownBy wr none∧∀ j,j<k→Cal.fig (l.getD j 0)=true) (fun i _=>14-(intOf i).toNat)
   case atStart=>exact ⟨0,Nat.zero_le _,rfl,grown_refl _ _,fun j hj=>absurd hj (Nat.not_lt_zero _)⟩
   case round =>
    obtain ⟨k,hk,rfl,hg,hall⟩:=hrel
    have HAll:=hid hall
    have HG:=hid hg
    by_cases hlt:k<14
    ·have f1:=HC.out wr hg k hlt
     have hFk:=HF.out k hlt
     have hx256:=HB.out k
     clear hall hg
     generalize hx:l.getD k 0=x at *
     have HX:=hid hx
     have him:=mwithin_any 48 57 _ [(x:Int)] _ (ints1 wr (x:Int)) (by simp)
     rw[fig_in] at him
     have HGa:=hid (grown_trans HG.out (World.grownBy_alloc wr (.cells #[.int .i64 (x:Int)] 3) none))
     clear hx
     cases hfx:Cal.fig x with
     |true =>
      rw[hfx] at him
      have HIm:=hid him
      have HFx:=hid hfx
      clear him hfx hFk
      go_wp2_with (go_at_call 196;refine HIm.out.mono ?_;rintro e w2 ⟨rfl,rfl⟩)
      go_roundw
      case rel=>exact ⟨k+1,by omega,by go_num,HGa.out,fun j hj=>(by
       rcases Nat.lt_or_ge j k with h|h
       ·exact HAll.out j h
       ·obtain rfl:j=k:=by omega
        rw[HX.out];exact HFx.out)⟩
      case measure=>simp[intOf];omega
     |false =>
      rw[hfx] at him
      have HIm:=hid him
      have hD:=hid (hFk hfx)
      clear him hfx hFk
      go_wp2_with (go_at_call 196;refine HIm.out.mono ?_;rintro e w2 ⟨rfl,rfl⟩)
      go_ret
      exact ⟨retB2 hD.out.symm,HGa.out⟩
    ·obtain rfl:k=14:=by omega
     have hD:=hid (HT.out HAll.out)
     clear hg hall
     go_wp2
     go_ret
     exact ⟨retB2 hD.out.symm,HG.out⟩
  ·have hD:isBodyL l=false:=by rw[isBodyL,decide_eq_false h90,Bool.false_and,Bool.and_false]
   rw[hD,h15]
   rw[h15] at hc
   have hx256:l.getD 14 0<256:=by
    rw[List.getD_eq_getElem?_getD,List.getElem?_eq_getElem (by omega)];exact hb _ (List.getElem_mem _)
   generalize l.getD 14 0=x at *
   have hne:((x:Int) != 90)=true:=by simp;omega
   clear hD h15 hb ha hcell hl h90
   go_enter Tryz.func161,Tryz.ntmps161
   go_wp2
   go_ret
   exact ⟨rfl,grown_refl _ _⟩
 ·have hD:isBodyL l=false:=by rw[isBodyL,decide_eq_false h15,Bool.false_and]
  rw[hD]
  have hne:((l.length:Int) != 15)=true:=by simp;omega
  clear hD hb ha hcell
  generalize l.length=n at *
  clear h15
  go_enter Tryz.func161,Tryz.ntmps161
  go_wp2
  go_ret
  exact ⟨rfl,grown_refl _ _⟩
def pairRow (l:List Nat) (k:Nat):List Int:=(List.range 7).map fun j=>if j<k then ((Cal.num2 l (2*j):Nat):Int) else 0
theorem pairRow_set (l:List Nat) (k:Nat) (hk:k<7):(cellsI (pairRow l k)).toArray.setIfInBounds k (.int .i64 ((Cal.num2 l (2*k):Nat):Int))=(cellsI (pairRow l (k+1))).toArray:=by
 match k,hk with
 |0,_=>rfl
 |1,_=>rfl
 |2,_=>rfl
 |3,_=>rfl
 |4,_=>rfl
 |5,_=>rfl
 |6,_=>rfl
theorem pairRow_at (l:List Nat) (k j:Nat) (hj:j<7):∃ z,(cellsI (pairRow l k)).toArray[j]?=some (.int .i64 z):=by
 refine ⟨(pairRow l k).getD j 0,?_⟩
 simpa using cellsI_at (pairRow l k) j (by simp[pairRow];exact hj)
theorem pairEnd {w wr:World} {L Z PR PR':Array Value} {t u:TypeId} {k:Nat} {z:Int} (hg:w.grownBy wr none) (h0:wr.heap[w.heap.size]?=some (.cells L t (0,0))) (h1:wr.heap[w.heap.size+1]?=some (.cells Z u (0,0))) (h2:wr.heap[w.heap.size+1+1]?=some (.cells PR u (0,0)))
  (hP:PR.setIfInBounds k (.int .i64 z)=PR') :
  w.grownBy (wr.setCell ⟨w.heap.size+1+1,k,none⟩ (.int .i64 z)).drew none∧(wr.setCell ⟨w.heap.size+1+1,k,none⟩ (.int .i64 z)).drew.heap[w.heap.size]?=some (.cells L t (0,0)) ∧
   (wr.setCell ⟨w.heap.size+1+1,k,none⟩ (.int .i64 z)).drew.heap[w.heap.size+1]?=some (.cells Z u (0,0))∧(wr.setCell ⟨w.heap.size+1+1,k,none⟩ (.int .i64 z)).drew.heap[w.heap.size+1+1]?=some (.cells PR' u (0,0)):=by
 have hg2:w.grownBy (wr.setCell ⟨w.heap.size+1+1,k,none⟩ (.int .i64 z)) none:=grown_set hg (.inl (by show w.heap.size≤w.heap.size+1+1;omega)) _
 have e0:=(heap_setCell_other wr ⟨w.heap.size+1+1,k,none⟩ w.heap.size (.int .i64 z) (by show w.heap.size≠w.heap.size+1+1;omega)).trans h0
 have e1:=(heap_setCell_other wr ⟨w.heap.size+1+1,k,none⟩ (w.heap.size+1) (.int .i64 z) (by show w.heap.size+1≠w.heap.size+1+1;omega)).trans h1
 have e2:=heap_setCell_same wr (w.heap.size+1+1) k PR u (.int .i64 z) h2
 rw[hP] at e2
 generalize World.setCell _ _ _=w9 at *
 exact ⟨grown_drewN hg2 1,e0,e1,e2⟩
theorem pairsOf_any (l:List Nat) (hl:l.length=15) (hf:∀ j,j<14→48≤l.getD j 0∧l.getD j 0≤57) (w:World) :
  Calls Tryz.prog 162 #[.agg (cellsL l).toArray] w fun e w'=>e=.returned (.agg (cellsI (pairRow l 7)).toArray)∧w.grownBy w' none:=by
 have HA:Hid (∀ k,k<7→∃ a b:Nat,(48≤a∧a≤57)∧(48≤b∧b≤57)∧(cellsL l).toArray[2*k]?=some (.int .u8 (a:Int))∧(cellsL l).toArray[2*k+1]?=some (.int .u8 (b:Int))∧Cal.num2 l (2*k)=(a-48)*10+(b-48)):=hid (fun k hk =>
  ⟨l.getD (2*k) 0,l.getD (2*k+1) 0,hf _ (by omega),hf _ (by omega),by simpa using cellsL_at l (2*k) (by omega),by simpa using cellsL_at l (2*k+1) (by omega),rfl⟩)
 have HPs:=hid (pairRow_set l)
 have HPa:=hid (pairRow_at l)
 have HP7:Hid ((cellsI (pairRow l 7)).toArray.size=7∧(cellsI (pairRow l 7)).toArray.all (·.oneCell')=true):=hid ⟨by simp[cellsI,pairRow],by rw[List.all_toArray,List.all_eq_true];exact cellsI_one _⟩
 have hP0:(cellsI (pairRow l 0)).toArray=#[.int .i64 0,.int .i64 0,.int .i64 0,.int .i64 0,.int .i64 0,.int .i64 0,.int .i64 0]:=rfl
 obtain ⟨PR,hPR⟩:∃ PR:Nat→Array Value,PR=fun k=>(cellsI (pairRow l k)).toArray:=⟨_,rfl⟩
 rw[show (cellsI (pairRow l 7)).toArray=PR 7 by rw[hPR]] at HP7 ⊢
 have HPs:Hid (∀ k,k<7→(PR k).setIfInBounds k (.int .i64 ((Cal.num2 l (2*k):Nat):Int))=PR (k+1)):=hid (by rw[hPR];exact HPs.out)
 have HPa:Hid (∀ k j,j<7→∃ z,(PR k)[j]?=some (.int .i64 z)):=hid (by rw[hPR];exact HPa.out)
 have HP0:Hid (PR 0=#[.int .i64 0,.int .i64 0,.int .i64 0,.int .i64 0,.int .i64 0,.int .i64 0,.int .i64 0]):=hid (by rw[hPR];exact hP0)
 obtain ⟨L,hL⟩:∃ L,L=(cellsL l).toArray:=⟨_,rfl⟩
 rw[←hL] at HA ⊢
 have HI7:Hid ((Tryz.prog.info? 213).map (·.size)=some 7):=hid (by kernel_rfl)
 obtain ⟨W3,hW3⟩:∃ W3,W3=((w.alloc (.cells L 215)).alloc (.cells #[.int .i64 0,.int .i64 0,.int .i64 0,.int .i64 0,.int .i64 0,.int .i64 0,.int .i64 0] 213)).alloc (.cells #[.int .i64 0,.int .i64 0,.int .i64 0,.int .i64 0,.int .i64 0,.int .i64 0,.int .i64 0] 213):=⟨_,rfl⟩
 have HG:Hid (w.grownBy W3 none):=hid (by rw[hW3];exact grown_alloc (grown_alloc (World.grownBy_alloc _ _ _) _) _)
 have H0:Hid (W3.heap[w.heap.size]?=some (.cells L 215 (0,0))):=hid (by
  rw[hW3,alloc_old _ _ _ (by rw[World.size_alloc,World.size_alloc];omega),alloc_old _ _ _ (by rw[World.size_alloc];omega)];exact alloc_at w _)
 have H1:Hid (W3.heap[w.heap.size+1]?=some (.cells (PR 0) 213 (0,0))):=hid (by
  have:=alloc_at (w.alloc (.cells L 215)) (.cells (PR 0) 213)
  rw[World.size_alloc] at this
  rw[hW3,←HP0.out,alloc_old _ _ _ (by rw[World.size_alloc,World.size_alloc];omega)];exact this)
 have H2:Hid (W3.heap[w.heap.size+1+1]?=some (.cells (PR 0) 213 (0,0))):=hid (by
  have:=alloc_at ((w.alloc (.cells L 215)).alloc (.cells (PR 0) 213)) (.cells (PR 0) 213)
  rw[World.size_alloc,World.size_alloc] at this
  rw[hW3,←HP0.out];exact this)
 have HW3:=hid hW3
 clear hPR hP0 hW3
 go_enter Tryz.func162,Tryz.ntmps162
 go_wp2
 rw[←hL]
 rw[←HW3.out]
 clear HW3 hL
 go_loopw [5] (fun i wr=>∃ k:Nat,k≤7∧i=.int .i64 k∧w.grownBy wr none∧wr.heap[w.heap.size]?=some (.cells L 215 (0,0))∧wr.heap[w.heap.size+1]?=some (.cells (PR 0) 213 (0,0))∧wr.heap[w.heap.size+1+1]?=some (.cells (PR k) 213 (0,0))) (fun i _=>7-(intOf i).toNat)
 case atStart=>exact ⟨0,Nat.zero_le _,rfl,HG.out,H0.out,H1.out,H2.out⟩
 case round =>
  obtain ⟨k,hk,rfl,hg,r0,r1,r2⟩:=hrel
  have G:=hid hg
  have R0:=hid r0
  have R1:=hid r1
  have R2:=hid r2
  by_cases hlt:k<7
  ·obtain ⟨a,b,⟨a1,a2⟩,⟨b1,b2⟩,ha,hb,hn⟩:=HA.out k hlt
   obtain ⟨z,hz⟩:=HPa.out k k hlt
   have x1:=cell_blk r0 _ ha
   have x2:=cell_blk r0 _ hb
   have x3:=cell_blk r2 _ hz
   have x4:=free_blk r2 k
   have HN:=hid hn
   have HPk:=hid (HPs.out k hlt)
   clear hg r0 r1 r2 ha hb hz hn
   go_wp2
   go_region
   obtain ⟨w5,hw5⟩:∃ W:World,W=(wr.setCell ⟨w.heap.size+1+1,k,none⟩ (.int .i64 (10*((a:Int)-48)+((b:Int)-48)))).drew:=⟨_,rfl⟩
   have h5:=pairEnd (k:=k) (z:=10*((a:Int)-48)+((b:Int)-48)) (PR':=PR (k+1)) G.out R0.out R1.out R2.out (by rw[←HPk.out,HN.out,show (((a-48)*10+(b-48):Nat):Int)=10*((a:Int)-48)+((b:Int)-48) by omega])
   rw[←hw5] at h5 ⊢
   have H5:=hid h5
   clear h5 hw5 x1 x2 x3 x4
   go_wp2
   go_roundw
   case rel=>exact ⟨k+1,by omega,by go_num,H5.out.1,H5.out.2.1,H5.out.2.2.1,H5.out.2.2.2⟩
   case measure=>simp[intOf];omega
  ·obtain rfl:k=7:=by omega
   clear hg r0 r1 r2 hk hlt
   obtain ⟨P7,hP7⟩:∃ P7,P7=PR 7:=⟨_,rfl⟩
   rw[←hP7] at HP7 R2
   have HZ:Hid ((PR 0).size=7):=hid (by rw[HP0.out];rfl)
   have HP7e:=hid hP7
   clear hP7
   go_wp2_with (first
    |(refine wpList_load_row (by rfl) 213 (.tmp 3) (by rfl) (w.heap.size+1+1) (by rfl) _ P7 (0,0) _ R2.out Tryz.underlying213 (by rfl) (by rw[HP7.out.1];exact HI7.out) ?_)
    |(refine wpList_store_row (by rfl) 213 (.tmp 2) (.tmp 26) (by rfl) (w.heap.size+1) P7 (by rfl) (by rfl) _ _ R1.out (by rw[HP7.out.1];exact HI7.out) (by rw[HP7.out.1];exact HZ.out) HP7.out.2 ?_))
   refine bodyPost_ret (v:=.agg P7) ?_ rfl ⟨?_,grown_setRow G.out (by omega) _⟩
   ·exact results_cell_row Tryz.results162 _ _ (w.heap.size+1) _ _ (0,0) _ rfl (setRow_heap _ _ _ P7 _ _ R1.out) Tryz.underlying213 rfl (by rw[HP7.out.1];exact HI7.out)
   ·rw[HP7e.out]
section
variable {P:Program} {a:Act} {o:Oper} {w:World}
theorem wpList_val {ops:Array Oper} {rest:List Oper} {Q:Exit→Act→World→Prop} (hgd:o.guard=none) (v:Value) (hr:(execOp a.eval o).run P w=.ok (.value v) w) (h:wpList P ops Q rest (a.put o.dst v) w):wpList P ops Q (o :: rest) a w :=
 wpList_plain hgd fun K hK=>by
  unfold Oper.wp
  rw[hr]
  exact hK _ _ h
theorem load_mid {ty:TypeId} {x:Operand} {b off:Nat} {cs:List Value} {d:TypeDesc} (ho:o.op=.load ty x) (hx:a.eval x=.pointer (some ⟨b,off,none⟩)) (h:w.rangeAt b off cs)
  (hu:P.underlying ty=some d) (hd:d.isRow=true) (hi:(P.info? ty).map (·.size)=some cs.length):(execOp a.eval o).run P w=.ok (.value (.agg cs.toArray)) w:=by
 have:=run_loadVar_mid (P:=P) w b off ty cs d h hu hd hi
 simp[execOp,ho,hx,Instr.loadAt,Instr.sureAddr,Result.andThen_ok,this]
end
theorem get_of {l:List Nat}:Cal.get l=if isBodyL l=true then (if Cal.Right (Cal.dateOf l) then .ok (Cal.sec (Cal.dateOf l)) else .error 1) else .error 4:=by
 rw[Cal.get]
 by_cases h:isBodyL l=true
 ·have h':=h
  rw[isBodyL,Bool.and_eq_true,Bool.and_eq_true,decide_eq_true_eq,decide_eq_true_eq] at h'
  rw[if_pos h,if_neg (by rw[h'.2.2];simp;exact ⟨h'.1,h'.2.1⟩)]
 ·rw[if_neg h,if_pos]
  rw[isBodyL,Bool.and_eq_true,Bool.and_eq_true,decide_eq_true_eq,decide_eq_true_eq] at h
  by_cases h1:l.length=15
  ·by_cases h2:l.getD 14 0=90
   ·right;right
    rw[←Bool.not_eq_true]
    exact fun h3=>h ⟨h1,h2,h3⟩
   ·exact .inr (.inl h2)
  ·exact .inl h1
theorem isBodyL_figs {l:List Nat} (h:isBodyL l=true):l.length=15∧∀ j,j<14→48≤l.getD j 0∧l.getD j 0≤57:=by
 rw[isBodyL,Bool.and_eq_true,Bool.and_eq_true,decide_eq_true_eq,decide_eq_true_eq] at h
 obtain ⟨h1,_,h3⟩:=h
 refine ⟨h1,fun j hj=>?_⟩
 rw[List.all_eq_true] at h3
 have h4:(l.take 14)[j]'(by rw[List.length_take];omega)=l.getD j 0:=by rw[List.getElem_take,List.getD_eq_getElem?_getD,List.getElem?_eq_getElem (by omega)];rfl
 have h5:=h3 _ (List.getElem_mem (show j<(l.take 14).length by rw[List.length_take];omega))
 rw[h4,Cal.fig,Bool.and_eq_true,decide_eq_true_eq,decide_eq_true_eq] at h5
 exact h5
theorem right_iff6 (A:Nat→Addr) (D:Cal.Date):(if Cal.rightI D.toI=true then #[Value.int .i64 ((Cal.sec D.toI.toD:Nat):Int),Value.nilIface] else #[Value.int .i64 0,errV A 1])=if Cal.Right D then #[Value.int .i64 ((Cal.sec D:Nat):Int),Value.nilIface] else #[Value.int .i64 0,errV A 1]:=by
 by_cases h:Cal.Right D
 ·obtain ⟨h1,h2⟩:=Cal.rightI_of h
  rw[if_pos h1,if_pos h,h2]
 ·have h1:¬ Cal.rightI D.toI=true:=fun e=>h (Cal.right_of e).1
  rw[if_neg h1,if_neg h]
theorem mGet_any (A:Nat→Addr) (W0:World) (hE:AllErrs W0 A) (hL:Lens W0):MoGet A W0:=by
 intro v l w hg hB hl
 have HIs:=hid (isBody_any v l w hB (by omega))
 rw[get_of]
 by_cases hb:isBodyL l=true
 ·rw[if_pos hb]
  rw[hb] at HIs
  obtain ⟨h15,hfg⟩:=isBodyL_figs hb
  have HPo:=hid (fun W=>pairsOf_any l h15 hfg W)
  obtain ⟨_,a,sb,so,c,rfl,hc,ha,hcell⟩:=hB
  rw[h15] at hc ha hcell HIs ⊢
  obtain ⟨rfl,hsb⟩:=ha (by omega)
  have HRg:Hid (∀ W,w.grownBy W none→W.rangeAt sb so (cellsL l)):=hid (fun W hW j v hj=>by
   have hj2:j<l.length:=by rw[←cellsL_len];exact (List.getElem?_eq_some_iff.1 hj).1
   rw[cellsL_at l j hj2] at hj
   obtain rfl:=Option.some.inj hj
   rw[World.cell?_of_block (hW.block sb hsb (by simp))]
   exact hcell j (by omega))
  have HL15:Hid ((Tryz.prog.info? 215).map (·.size)=some (cellsL l).length):=hid (by rw[cellsL_len,h15];kernel_rfl)
  have HAt:Hid (∀ W,(Instr.arrayAt 215 (.slice (some ⟨sb,so,none⟩) 15 c)).run Tryz.prog W=.ok (.pointer (some ⟨sb,so,none⟩)) W):=hid (fun W=>run_arrayAt W 215 _ 15 _ 15 c Tryz.underlying215 (Nat.le_refl _))
  have HSe:=fun W hW=>mSec_any A W0 hE hL (Cal.dateOf l).toI W (by
   have hn:∀ i,i≤12→Cal.num2 l i≤99:=fun i hi=>by
    have h1:=hfg i (by omega)
    have h2:=hfg (i+1) (by omega)
    unfold Cal.num2
    omega
   have h0:=hn 0 (by omega)
   have h2:=hn 2 (by omega)
   have h4:=hn 4 (by omega)
   have h6:=hn 6 (by omega)
   have h8:=hn 8 (by omega)
   have h10:=hn 10 (by omega)
   have h12:=hn 12 (by omega)
   simp only[Cal.Date.toI,Cal.dateOf,inI]
   omega) (grown_trans hg hW)
  have hn:∀ i,i≤12→Cal.num2 l i≤99:=fun i hi=>by
   have h1:=hfg i (by omega)
   have h2:=hfg (i+1) (by omega)
   unfold Cal.num2
   omega
  have HE6:Hid (moGot A (if Cal.Right (Cal.dateOf l) then Except.ok (Cal.sec (Cal.dateOf l)) else Except.error 1)=.tuple (if Cal.rightI (Cal.dateOf l).toI=true then #[Value.int .i64 ((Cal.sec (Cal.dateOf l).toI.toD:Nat):Int),Value.nilIface] else #[Value.int .i64 0,errV A 1])):=hid (by
   rw[right_iff6]
   split <;> rfl)
  obtain ⟨R,hR⟩:∃ R:Array Value,R=(if Cal.rightI (Cal.dateOf l).toI=true then #[Value.int .i64 ((Cal.sec (Cal.dateOf l).toI.toD:Nat):Int),Value.nilIface] else #[Value.int .i64 0,errV A 1]):=⟨_,rfl⟩
  have HRc:Hid (∃ x y,R=#[x,y]):=hid (by rw[hR];split <;> exact ⟨_,_,rfl⟩)
  rw[←hR] at HSe HE6
  rw[HE6.out]
  obtain ⟨rx,ry,rfl⟩:=HRc.out
  have hdv:dV (Cal.dateOf l).toI=.agg #[.int .i64 (100*((Cal.num2 l 0:Nat):Int)+((Cal.num2 l 2:Nat):Int)),.int .i64 ((Cal.num2 l 4:Nat):Int),.int .i64 ((Cal.num2 l 6:Nat):Int),.int .i64 ((Cal.num2 l 8:Nat):Int),.int .i64 ((Cal.num2 l 10:Nat):Int),.int .i64 ((Cal.num2 l 12:Nat):Int)]:=by
   have:(((Cal.num2 l 0)*100+Cal.num2 l 2:Nat):Int)=100*((Cal.num2 l 0:Nat):Int)+((Cal.num2 l 2:Nat):Int):=by omega
   rw[←this]
   rfl
  rw[hdv] at HSe
  have hpr:(cellsI (pairRow l 7)).toArray=#[.int .i64 ((Cal.num2 l 0:Nat):Int),.int .i64 ((Cal.num2 l 2:Nat):Int),.int .i64 ((Cal.num2 l 4:Nat):Int),.int .i64 ((Cal.num2 l 6:Nat):Int),.int .i64 ((Cal.num2 l 8:Nat):Int),.int .i64 ((Cal.num2 l 10:Nat):Int),.int .i64 ((Cal.num2 l 12:Nat):Int)]:=rfl
  have k0:=hn 0 (by omega)
  have k2:=hn 2 (by omega)
  generalize Cal.num2 l 0=n0 at *
  generalize Cal.num2 l 2=n1 at *
  generalize Cal.num2 l 4=n2 at *
  generalize Cal.num2 l 6=n3 at *
  generalize Cal.num2 l 8=n4 at *
  generalize Cal.num2 l 10=n5 at *
  generalize Cal.num2 l 12=n6 at *
  have HSec:=hid HSe
  obtain ⟨PR,hPR⟩:∃ PR,PR=(cellsI (pairRow l 7)).toArray:=⟨_,rfl⟩
  rw[←hPR] at HPo hpr
  have HPR:=hid hpr
  have HPs:Hid (PR.size=7∧PR.all (·.oneCell')=true):=hid (by rw[hpr];exact ⟨rfl,by simp[Value.oneCell']⟩)
  have HI7:Hid ((Tryz.prog.info? 213).map (·.size)=some 7):=hid (by kernel_rfl)
  obtain ⟨CL,hCL⟩:∃ CL,CL=cellsL l:=⟨_,rfl⟩
  rw[←hCL] at HRg HL15 HPo
  clear hPR hpr hdv HSe hR HE6 HRc hcell hsb hfg hn hb hl h15 hCL hc
  go_enter Tryz.func120,Tryz.ntmps120
  go_wp2_with (first
   |(go_at_call 161;refine HIs.out.mono ?_;rintro e w1 ⟨rfl,hg1⟩;have HG1:=hid hg1;have hat:=HAt.out w1;clear hg1)
   |(refine wpList_val (by rfl) (.agg CL.toArray) (load_mid (by rfl) (by rfl) (HRg.out w1 HG1.out) Tryz.underlying215 (by rfl) HL15.out) ?_;clear hat)
   |(go_at_call 162;refine (HPo.out w1).mono ?_;rintro e w2 ⟨rfl,hg2⟩;have HG2:=hid (grown_trans HG1.out hg2);clear hg2)
   |(refine wpList_store_row (by rfl) 213 (.tmp 4) (.tmp 12) (by rfl) w2.heap.size PR (by rfl) (by rfl) _ _ (alloc_at w2 _) (by rw[HPs.out.1];exact HI7.out) (by rw[HPs.out.1];rfl) HPs.out.2 ?_;obtain ⟨w3,hx⟩:∃ W:World,W=(w2.alloc (.cells #[.int .i64 0,.int .i64 0,.int .i64 0,.int .i64 0,.int .i64 0,.int .i64 0,.int .i64 0] 213)).setRow w2.heap.size PR:=⟨_,rfl⟩;rw[←hx];have hst:=stored (z:=#[.int .i64 0,.int .i64 0,.int .i64 0,.int .i64 0,.int .i64 0,.int .i64 0,.int .i64 0]) (DC:=PR) (T:=213) HG2.out;rw[←hx,HPR.out] at hst;have HS:=hid hst;have x0:=cell_blk hst.2.2 0 rfl;have x1:=cell_blk hst.2.2 1 rfl;have x2:=cell_blk hst.2.2 2 rfl;have x3:=cell_blk hst.2.2 3 rfl;have x4:=cell_blk hst.2.2 4 rfl;have x5:=cell_blk hst.2.2 5 rfl;have x6:=cell_blk hst.2.2 6 rfl;clear hst hx)
   |(go_at_call 163;refine (HSec.out w3 HS.out.1).mono ?_;rintro e w4 ⟨hg4,rfl⟩;have HG4:=hid (grown_trans HS.out.1 hg4);clear hg4))
  go_ret2
  exact ⟨HG4.out,rfl⟩
 ·rw[if_neg hb]
  have hf:isBodyL l=false:=by rw[←Bool.not_eq_true];exact hb
  rw[hf] at HIs
  have HErr:=hid (fun W hW=>err_form (hE.grown (w':=W) (grown_trans hg hW)))
  simp only[moGot]
  clear hb hf hB hl
  go_enter Tryz.func120,Tryz.ntmps120
  go_wp2_with (go_at_call 161;refine HIs.out.mono ?_;rintro e w1 ⟨rfl,hg1⟩;have HG1:=hid hg1;have he:=HErr.out w1 hg1;clear hg1)
  go_quiet (fail)
  go_wp2
  go_ret2
  exact ⟨grown_drewN HG1.out _,rfl⟩
end Go.Proofs.YtndkifkhdollgaaGreatDoor
