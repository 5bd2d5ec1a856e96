import Derived.Test.YtndkifkhdollgaaGreatDoorZr12
import Derived.Test.YtndkifkhdollgaaGreatDoorZr17
import Derived.Test.YtndkifkhdollgaaGreatDoorZr29
import Derived.Test.YtndkifkhdollgaaGreatDoorZr33
import Derived.Test.YtndkifkhdollgaaGreatDoorZr37
import Derived.Test.YtndkifkhdollgaaGreatDoorZr39
import Derived.Test.YtndkifkhdollgaaGreatDoorZr43
import Derived.Test.YtndkifkhdollgaaGreatDoorZr48
set_option linter.unusedVariables false
set_option linter.unusedSimpArgs false
set_option maxRecDepth 100000
set_option maxHeartbeats 4000000
namespace Go.Proofs.YtndkifkhdollgaaGreatDoor
open Lib (hid)
open Go.RowKit
theorem ReadsOf.up {A:Nat→Addr} {w w':World} (h:ReadsOf A w) (hg:w.grownBy w' none):ReadsOf A w' :=
 ⟨h.errs.grown hg,fun v l W h1=>h.moment v l W (grown_trans hg h1),fun v l W h1=>h.flags v l W (grown_trans hg h1),fun v s m W h1 h2 h3=>h.text v s m W h1 h2 (grown_trans hg h3),fun v b W h1=>h.oid v b W (grown_trans hg h1)⟩
theorem TwoR.less {A:Nat→Addr} {W0 w:World} {b1 b2:Nat} {B B':Nat→Prop} {s:De.Rd} (h:TwoR A W0 b1 b2 B s w) (hB:∀ k,B' k→B k):TwoR A W0 b1 b2 B' s w:=by
 obtain ⟨F1,F2,h1,h2,h3,h4⟩:=h
 exact ⟨F1,F2,h1,h2,h3,fun k hk=>h4 k (hB k hk)⟩
theorem TwoR.base {A:Nat→Addr} {W0 w:World} {b1 b2:Nat} {B:Nat→Prop} {s:De.Rd} (h:TwoR A W0 b1 b2 B s w):W0.grownBy w none:=by
 obtain ⟨F1,F2,h1,_⟩:=h
 exact h1.base
theorem TwoR.sane {A:Nat→Addr} {W0 w:World} {b1 b2:Nat} {B:Nat→Prop} {s:De.Rd} (h:TwoR A W0 b1 b2 B s w):De.Sane s:=by
 obtain ⟨F1,F2,h1,_⟩:=h
 exact h1.sane
section
variable {A:Nat→Addr} {W0 w:World} {b1 b2:Nat} {B:Nat→Prop} {s:De.Rd}
theorem TwoR.more1 (h:TwoR A W0 b1 b2 B s w):Calls Tryz.prog 12 #[.pointer (some ⟨b1,0,none⟩)] w fun e w'=>∃ v,e=.returned v∧w.grownBy w' none∧isV (.bool (De.more s)) v w':=by
 obtain ⟨F1,F2,h1,h2,_⟩:=h
 refine (prMore_any h1).mono ?_
 rintro e w' ⟨rfl,rfl⟩
 exact ⟨_,rfl,grown_refl _ _,rfl⟩
theorem TwoR.more2 (h:TwoR A W0 b1 b2 B s w) (hs:s.left.length≤17):Calls Tryz.prog 13 #[.pointer (some ⟨b2,0,none⟩)] w fun e w'=>∃ v,e=.returned v∧w.grownBy w' none∧isV (.bool (De.more s)) v w':=by
 obtain ⟨F1,F2,h1,h2,_⟩:=h
 refine (refMore_any h2 (by omega)).mono ?_
 rintro e w' ⟨rfl,hg⟩
 exact ⟨_,rfl,hg,rfl⟩
theorem TwoR.peek1 (h:TwoR A W0 b1 b2 B s w):Calls Tryz.prog 14 #[.pointer (some ⟨b1,0,none⟩)] w fun e w'=>∃ v,e=.returned v∧w.grownBy w' none∧isV (.int .i64 (De.peek s:Nat)) v w':=by
 obtain ⟨F1,F2,h1,h2,_⟩:=h
 refine (prPeek_any h1).mono ?_
 rintro e w' ⟨rfl,rfl⟩
 exact ⟨_,rfl,grown_refl _ _,rfl⟩
theorem TwoR.peek2 (h:TwoR A W0 b1 b2 B s w) (hs:s.left.length≤17):Calls Tryz.prog 15 #[.pointer (some ⟨b2,0,none⟩)] w fun e w'=>∃ v,e=.returned v∧w.grownBy w' none∧isV (.int .i64 (De.peek s:Nat)) v w':=by
 obtain ⟨F1,F2,h1,h2,_⟩:=h
 refine (refPeek_any h2 (by omega)).mono ?_
 rintro e w' ⟨rfl,hg⟩
 exact ⟨_,rfl,hg,rfl⟩
theorem TwoR.err1 (h:TwoR A W0 b1 b2 B s w):Calls Tryz.prog 17 #[.pointer (some ⟨b1,0,none⟩)] w fun e w'=>∃ v,e=.returned v∧w.grownBy w' none∧isV (errOf A s.e) v w':=by
 obtain ⟨F1,F2,h1,h2,_⟩:=h
 refine (prErrR_any h1).mono ?_
 rintro e w' ⟨rfl,rfl⟩
 exact ⟨_,rfl,grown_refl _ _,rfl⟩
theorem TwoR.end1 (h:TwoR A W0 b1 b2 B s w) (hE:AllErrs W0 A):Calls Tryz.prog 18 #[.pointer (some ⟨b1,0,none⟩)] w fun e w'=>∃ v,e=.returned v∧w.grownBy w' none∧isV (errOf A (De.fin s)) v w':=by
 obtain ⟨F1,F2,h1,h2,_⟩:=h
 refine (prEnd_any h1 hE).mono ?_
 rintro e w' ⟨rfl,rfl⟩
 exact ⟨_,rfl,grown_refl _ _,rfl⟩
theorem TwoR.end2 (h:TwoR A W0 b1 b2 B s w):Calls Tryz.prog 19 #[.pointer (some ⟨b2,0,none⟩)] w fun e w'=>∃ v,e=.returned v∧w.grownBy w' none∧isV (.int .i64 (De.fin s:Nat)) v w':=by
 obtain ⟨F1,F2,h1,h2,_⟩:=h
 refine (refEnd_any h2).mono ?_
 rintro e w' ⟨rfl,hg⟩
 exact ⟨_,rfl,hg,rfl⟩
theorem TwoR.cell (h:TwoR A W0 b1 b2 B s w):w.cell? ⟨b2,1,none⟩=some (.int .i64 (s.e:Nat)):=by
 obtain ⟨F1,F2,h1,h2,_⟩:=h
 obtain ⟨lv,h3,_⟩:=h2.body
 exact cell_blk h3 1 rfl
end
theorem numV {A:Nat→Addr} {k:Nat} (hk:k≤28) {w:World} (hA:AllErrs w A):Calls Tryz.prog 16 #[errOf A k] w fun e w'=>∃ v,e=.returned v∧w.grownBy w' none∧isV (.int .i64 (k:Nat)) v w':=by
 refine (num_of A k hk w hA).mono ?_
 rintro e w' ⟨rfl,hg⟩
 exact ⟨_,rfl,hg,rfl⟩
theorem twoR_new {A:Nat→Addr} {W0 w3 w4:World} {b1 b2:Nat} {l:List Nat} (h1:PrR A W0 (fun k=>W0.heap.size≤k∧k<w3.heap.size) b1 (De.start l) w3) (hg:w3.grownBy w4 none) (h2:RefR W0 (Ext (fun _=>False) w3 w4) b2 (De.start l) w4):TwoR A W0 b1 b2 (fun _=>False) (De.start l) w4 :=
 ⟨_,_,h1.still hg,h2,fun k hk hf=>by
  rcases hf with hf|hf
  ·exact hf
  ·have:=hk.2;omega,fun k hk=>hk.elim⟩
theorem derReads_long (A:Nat→Addr) (va aa:Option Addr) (n vc m ac:Nat) (w:World) (hA:AllErrs w A) (hlong:1000<n∨60<m) :
  Calls Tryz.prog 3 #[.slice va n vc,.slice aa m ac] w fun e w'=>e=.returned (.bool true)∧w.grownBy w' none:=by
 have HAl:=hid (alive8_e A w hA)
 clear hA
 by_cases h1:1000<n
 ·have hn:(1000:Int)<(n:Int):=by omega
  clear hlong
  go_enter Tryz.func3,Tryz.ntmps3
  go_wp2_with (go_at_call 8;refine HAl.out.mono ?_;rintro e w1 ⟨rfl,hg1⟩;have HG1:=hid hg1;clear hg1)
  go_ret
  exact ⟨rfl,HG1.out⟩
 ·have hn:¬ (1000:Int)<(n:Int):=by omega
  have hm:(60:Int)<(m:Int):=by omega
  clear hlong
  go_enter Tryz.func3,Tryz.ntmps3
  go_wp2_with (go_at_call 8;refine HAl.out.mono ?_;rintro e w1 ⟨rfl,hg1⟩;have HG1:=hid hg1;clear hg1)
  go_ret
  exact ⟨rfl,HG1.out⟩
theorem derReads_main (A:Nat→Addr) (va:Option Addr) (vc:Nat) (l:List Nat) (aa:Option Addr) (sb so m ac:Nat) (xs:List AskL) (w:World) (hB:Bytes w (.slice va l.length vc) l) (h0:Whole0 (.slice va l.length vc)) (hxm:xs.length=m) (ha:0<m→aa=some ⟨sb,so,none⟩∧sb<w.heap.size) (hX:AsksAt w sb so xs) (hmc:m≤ac) (hR:ReadsOf A w) (hl:l.length≤1000) (hm:m≤60) :
  Calls Tryz.prog 3 #[.slice va l.length vc,.slice aa m ac] w fun e w'=>e=.returned (.bool true)∧w.grownBy w' none:=by
 have HAl:=hid (alive8_e A w hR.errs)
 have HB:=hid hB
 have H0:=hid h0
 have HXm:=hid hxm
 have HAd:=hid ha
 have HX:=hid hX
 have HMc:=hid hmc
 have HR:=hid hR
 have HL:=hid hl
 have HM:=hid hm
 obtain ⟨n,hn⟩:∃ n,n=l.length:=⟨_,rfl⟩
 have HN:=hid hn
 have HNb:Hid (∀ W,w.grownBy W none→Calls Tryz.prog 9 #[.slice va n vc] W fun e w'=>∃ g c,e=.returned (.slice (some ⟨g,0,none⟩) n c)∧n+6≤c∧c≤maxLen∧W.heap.size≤g∧g<w'.heap.size∧W.grownBy w' none∧Room w' g l):=hid (fun W hW=>by
  rw[hn]
  refine (numBytes_any _ l W (hB.grown hW) h0 (by omega)).mono ?_
  rintro e w' ⟨g,c,e1,e2,e3,e4,⟨cur,fr,e5⟩,e6,e7⟩
  exact ⟨g,c,e1,e2,e3,e4,blk_lt e5,e6,e7⟩)
 have HRd:Hid (∀ W g c,w.grownBy W none→Room W g l→g<W.heap.size→n+6≤c→Calls Tryz.prog 10 #[.slice (some ⟨g,0,none⟩) n c] W fun e w'=>∃ b,e=.returned (.pointer (some ⟨b,0,none⟩))∧W.heap.size≤b∧W.grownBy w' none∧PrR A W (fun k=>W.heap.size≤k∧k<w'.heap.size) b (De.start l) w'):=hid (fun W g c hW hr hg hc=>by
  rw[hn]
  exact rrRead_any A _ c l W W (grown_refl _ _) (hr.bytes hB.lt hg (by omega)) (Whole0.some _ _ _) (by omega) (hR.errs.grown hW))
 have HRf:Hid (∀ W0 W,w.grownBy W0 none→W0.grownBy W none→Calls Tryz.prog 11 #[.slice va n vc] W fun e w'=>∃ b,e=.returned (.pointer (some ⟨b,0,none⟩))∧W.heap.size≤b∧W.grownBy w' none∧RefR W0 (Ext (fun _=>False) W w') b (De.start l) w'):=hid (fun W0 W hW hW0=>by
  rw[hn]
  refine refRead_any _ l hW0 (fun k hk=>hk.elim) ?_ (by omega)
  have hb0:=hB.grown hW
  refine ((bytes_sup (F:=Or0 W0 (fun _=>False)) (hb0.grown hW0) (fun k hk=>?_) (fun h k hk=>?_)).map (fun X hX=>⟨hX,h0⟩))
  ·rcases hk with hk|hk
   ·exact hk.elim
   ·exact Nat.lt_of_lt_of_le hk hW0.size
  ·right
   obtain ⟨_,a,sb,so,c,e,_,h3,_⟩:=hb0
   obtain ⟨e4,h4⟩:=h3 h
   obtain ⟨a',n',c',e5,rfl⟩:=hk
   rw[e5] at e
   simp only[Value.slice.injEq] at e
   rw[e4] at e
   have:=Option.some.inj e.1
   rw[this];exact h4)
 have HBg:Hid (∀ W,w.grownBy W none→Bytes W (.slice va n vc) l):=hid (fun W hW=>by rw[hn];exact hB.grown hW)
 rw[←hn]
 have hn1:¬ (1000:Int)<(n:Int):=by omega
 have hm1:¬ (60:Int)<(m:Int):=by omega
 clear hB h0 hxm ha hX hmc hR hl hm hn
 go_enter Tryz.func3,Tryz.ntmps3
 go_wp2_with (first
  |(go_at_call 8;refine HAl.out.mono ?_;rintro e w1 ⟨rfl,hg1⟩;have HG1:=hid hg1;clear hg1)
  |(go_at_call 9;refine (HNb.out _ HG1.out).mono ?_;rintro e w2 ⟨g,c,rfl,hc1,hc2,hc3,hc4,hg2,hr2⟩;have HG2:=hid (grown_trans HG1.out hg2);have HRm:=hid hr2;have HC:=hid (show n+6≤c∧c≤maxLen∧g<w2.heap.size from ⟨hc1,hc2,hc4⟩);clear hc1 hc2 hc3 hc4 hg2 hr2)
  |(go_at_call 10;refine (HRd.out _ _ _ HG2.out HRm.out HC.out.2.2 HC.out.1).mono ?_;rintro e w3 ⟨b1,rfl,-,hg3,hp3⟩;have HG3:=hid hg3;have HP3:=hid hp3;clear hg3 hp3)
  |(go_at_call 11;refine (HRf.out _ _ HG2.out HG3.out).mono ?_;rintro e w4 ⟨b2,rfl,-,hg4,hp4⟩;have HT4:=hid (twoR_new HP3.out hg4 hp4);clear hg4 hp4))
 have HR2:=hid (HR.out.up HG2.out)
 clear hn1 hm1
 go_loopw [32] (fun i wr=>∃ (j:Nat) (s:De.Rd),j≤m∧i=.int .i64 j∧TwoR A w2 b1 b2 (fun _=>False) s wr∧De.Small s∧s.e≤28) (fun i _=>m-(intOf i).toNat)
 case atStart=>exact ⟨0,De.start l,Nat.zero_le _,rfl,HT4.out,De.small_start HL.out,De.start_e28⟩
 case round =>
  obtain ⟨j,s,hj,rfl,hT,hS,hse⟩:=hrel
  have HT:=hid hT
  have HS:=hid hS
  have HSe:=hid hse
  have HGr:Hid (w.grownBy wr none):=hid (grown_trans HG2.out hT.base)
  by_cases hjm:j<m
  ·obtain ⟨rfl,hsbl⟩:=HAd.out (by omega)
   obtain ⟨x,hx⟩:∃ x,x=xs.getD j ask0:=⟨_,rfl⟩
   obtain ⟨c0,c1,c2,c3,hi64⟩:=(HX.out.grown HGr.out (fun _=>hsbl)) j (by rw[HXm.out];exact hjm)
   rw[←hx] at c0 c1 c2 c3 hi64
   have hsw:sb<wr.heap.size:=Nat.lt_of_lt_of_le hsbl HGr.out.size
   have HI64:=hid hi64
   obtain ⟨W1,hW1⟩:∃ W1,W1=wr.alloc (.cells #[.int .i64 x.kind,.int .i64 x.tag,.int .i64 x.least,.int .i64 x.most] 31):=⟨_,rfl⟩
   have HW1:=hid hW1
   have hg1:wr.grownBy W1 none:=by rw[hW1];exact World.grownBy_alloc _ _ _
   have HK1:=hid (hT.keep hg1)
   have hB1:W1.heap[wr.heap.size]?=some (.cells #[.int .i64 x.kind,.int .i64 x.tag,.int .i64 x.least,.int .i64 x.most] 31 (0,0)):=by rw[hW1];exact alloc_at _ _
   have HB1:=hid hB1
   have hlev:=hS.lev
   have HLev:=hid hlev
   clear hT hS hse hx hi64 hW1 hg1 hB1 hlev
   go_wp2
   rw[←HW1.out]
   refine dr_region12 _ b1 b2 (De.more s) (De.peek s) s.e (De.fin s) (errOf A s.e) (errOf A (De.fin s)) W1 _ _ rfl rfl rfl (fun W hW=>(HK1.out.still hW).more1) (fun W hW=>(HK1.out.still hW).more2 HLev.out) (fun W hW=>(HK1.out.still hW).peek1) (fun W hW=>(HK1.out.still hW).peek2 HLev.out) (fun W hW=>(HK1.out.still hW).err1)
    (fun W hW=>numV HSe.out (HR2.out.errs.grown (HK1.out.still hW).base)) (fun W hW=>(HK1.out.still hW).end1 HR2.out.errs) (fun W hW=>numV (De.fin_e28 HSe.out) (HR2.out.errs.grown (HK1.out.still hW).base)) (fun W hW=>(HK1.out.still hW).end2) (fun W hW=>(HK1.out.still hW).cell) (grown_drewN (grown_refl _ _) 1) (fun us w5 hg5=>?_)
   simp only[fill_cons,fill_nil,Act.put,List.setIfInBounds_toArray,List.set_cons_succ,List.set_cons_zero]
   have HT5:=hid (HK1.out.still hg5)
   have HB5:=hid ((hg5.block _ (blk_lt HB1.out) (by simp)).trans HB1.out)
   clear hg5
   go_wp2
   refine dr_region14 _ A w2 w5 w5 b1 b2 wr.heap.size _ s x.kind x.tag x.least x.most _ rfl rfl rfl rfl HT5.out (.inr ⟨Nat.le_refl _,?_⟩) HB5.out HR2.out HS.out HI64.out (grown_drewN (grown_refl _ _) 1) (fun us2 w6 g6 g7 a1 k1 a2 k2 S2 e6 e7 hT6 hsame hc6 hc7 hS2 hb1 hb2=>?_)
   ·exact blk_lt HB1.out
   have hSt:S2=strOf (De.ask s x.kind x.tag x.least x.most).2.t:=by rw[←hS2,strOf_strL]
   subst hSt
   have HT6:=hid hT6
   have HSm:=hid (De.ask_small (k:=x.kind) (tag:=x.tag) (least:=x.least) (most:=x.most) HS.out hT6.sane)
   have HSe6:=hid (De.ask_e28 (k:=x.kind) (tag:=x.tag) (least:=x.least) (most:=x.most) HSe.out)
   obtain ⟨s',hs'⟩:∃ s',s'=(De.ask s x.kind x.tag x.least x.most).1:=⟨_,rfl⟩
   rw[←hs'] at HT6 HSm HSe6
   generalize (De.ask s x.kind x.tag x.least x.most).2=y at *
   have d1:=cell_blk hc6 1 rfl
   have d2:=cell_blk hc6 2 rfl
   have d3:=cell_blk hc6 3 rfl
   have d4:=cell_blk hc6 4 rfl
   have f1:=cell_blk hc7 1 rfl
   have f2:=cell_blk hc7 2 rfl
   have f3:=cell_blk hc7 3 rfl
   have f4:=cell_blk hc7 4 rfl
   have cv1:=conv_bytes (P:=Tryz.prog) hb1 22 5 9 Tryz.underlying22 Tryz.underlying5 Tryz.underlying9
   have cv2:=conv_bytes (P:=Tryz.prog) hb2 22 5 9 Tryz.underlying22 Tryz.underlying5 Tryz.underlying9
   simp only[fill_cons,fill_nil,Act.put,List.setIfInBounds_toArray,List.set_cons_succ,List.set_cons_zero]
   rw[e6,e7]
   generalize strOf y.t=yS at *
   generalize strOf y.b=yB at *
   generalize y.b.length=yl at *
   generalize y.n=yn at *
   generalize y.is=yi at *
   clear hT6 hsame hc6 hc7 hS2 hb1 hb2 hs' e6 e7
   go_wp2
   go_roundw
   case rel=>exact ⟨j+1,s',by omega,by go_num,HT6.out.less (fun k hk=>hk.elim),HSm.out,HSe6.out⟩
   case measure=>simp[intOf];omega
  ·obtain rfl:j=m:=by omega
   have HE1:=hid (fun W (hW:wr.grownBy W none)=>(HT.out.still hW).end1 HR2.out.errs)
   have HE2:=hid (fun W (hW:wr.grownBy W none)=>(HT.out.still hW).end2)
   have HNu:=hid (fun W (hW:wr.grownBy W none)=>numV (A:=A) (De.fin_e28 HSe.out) (HR2.out.errs.grown (HT.out.still hW).base))
   have HKp:Hid (∀ W,wr.grownBy W none→Calls Tryz.prog 22 #[.slice (some ⟨g,0,none⟩) n c,.slice va n vc] W fun e w'=>e=.returned (.bool true)∧W.grownBy w' none):=hid (fun W hW=>by
    have hgW:=grown_trans HT.out.base hW
    refine (kept_any g n c (.slice va n vc) l W HN.out.symm HC.out.1 (by have:=HC.out.2.1;unfold maxLen at this;omega) (Nat.lt_of_lt_of_le HC.out.2.2 hgW.size) (HRm.out.grown HC.out.2.2 hgW (by simp)) (HBg.out W (grown_trans HG2.out hgW))).mono ?_
    rintro e w' ⟨rfl,k,rfl⟩
    exact ⟨rfl,grown_drewN (grown_refl _ _) k⟩)
   generalize De.fin s=fs at *
   generalize errOf A fs=ev at *
   clear hT hS hse
   go_wp2_with (first
    |(go_at_call 18;refine (HE1.out _ (grown_refl _ _)).mono ?_;rintro e w5 ⟨v5,rfl,hg5,hv5⟩;obtain rfl:v5=ev:=hv5;have G5:=hid hg5;clear hg5)
    |(go_at_call 16;refine (HNu.out _ G5.out).mono ?_;rintro e w6 ⟨v6,rfl,hg6,hv6⟩;obtain rfl:v6=.int .i64 (fs:Nat):=hv6;have G6:=hid (grown_trans G5.out hg6);clear hg6)
    |(go_at_call 19;refine (HE2.out _ G6.out).mono ?_;rintro e w7 ⟨v7,rfl,hg7,hv7⟩;obtain rfl:v7=.int .i64 (fs:Nat):=hv7;have G7:=hid (grown_trans G6.out hg7);clear hg7)
    |(go_at_call 22;refine (HKp.out _ G7.out).mono ?_;rintro e w8 ⟨rfl,hg8⟩;have G8:=hid (grown_trans G7.out hg8);clear hg8))
   go_ret
   exact ⟨rfl,grown_trans HGr.out G8.out⟩
theorem derReads_any (A:Nat→Addr) (va:Option Addr) (vc:Nat) (l:List Nat) (aa:Option Addr) (sb so m ac:Nat) (xs:List AskL) (w:World) (hB:Bytes w (.slice va l.length vc) l) (h0:Whole0 (.slice va l.length vc)) (hxm:xs.length=m) (ha:0<m→aa=some ⟨sb,so,none⟩∧sb<w.heap.size) (hX:AsksAt w sb so xs) (hmc:m≤ac) (hR:ReadsOf A w) :
  Calls Tryz.prog 3 #[.slice va l.length vc,.slice aa m ac] w fun e w'=>e=.returned (.bool true)∧w.grownBy w' none:=by
 by_cases h:1000<l.length∨60<m
 ·exact derReads_long A va aa l.length vc m ac w hR.errs h
 ·exact derReads_main A va vc l aa sb so m ac xs w hB h0 hxm ha hX hmc hR (by omega) (by omega)
end Go.Proofs.YtndkifkhdollgaaGreatDoor
