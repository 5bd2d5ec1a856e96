import Derived.Test.YtjjbkpjjmbfdhaaGreatDoorZb19
import Derived.Test.YtjjbkpjjmbfdhaaGreatDoorZb22
import Derived.Test.YtjjbkpjjmbfdhaaGreatDoorZb30
import Derived.Test.YtjjbkpjjmbfdhaaGreatDoorZb31
import Derived.Test.YtjjbkpjjmbfdhaaGreatDoorZb35
import Derived.Test.YtjjbkpjjmbfdhaaGreatDoorZb36
import Derived.Test.YtjjbkpjjmbfdhaaGreatDoorZb38
import Derived.Test.YtjjbkpjjmbfdhaaGreatDoorZb42
import Derived.Test.YtjjbkpjjmbfdhaaGreatDoorZb46
import Derived.Lib.SmallJoins
set_option linter.unusedVariables false
set_option linter.unusedSimpArgs false
set_option maxRecDepth 100000
set_option maxHeartbeats 8000000
namespace Go.Proofs.YtjjbkpjjmbfdhaaGreatDoor
open Go.Lib (hid)
open Go.RowKit Bu
theorem bBytes_any {A:Nat→Addr} (v:Int) (sp:ByteArray) (a:Value) (l:List An) (w:World) (hA:Ans w a l) (hr:right ⟨v,sp,l⟩=true) (hk:∀ x∈l,x.k.size≤1000) (hsp:sp.size≤1000) (hB:BodiesOf A w) :
  Calls Tryz.prog 6 #[.agg #[.int .i64 v,.string sp,a]] w fun e w'=>w.grownBy w' none∧PDnPost A w w' (De.done (putBd ⟨v,sp,l⟩)) e:=by
 have hI:=bd_info
 have hr2:(decide (1≤v∧v≤1099511627776)&&(Pt.label (strL sp)&&okL l))=true:=hr
 rw[Bool.and_eq_true,Bool.and_eq_true,decide_eq_true_eq] at hr2
 obtain ⟨hv,_,hok⟩:=hr2
 have h8:l.length≤8:=by
  unfold okL at hok
  rw[Bool.and_eq_true,decide_eq_true_eq] at hok
  exact hok.1.2
 obtain ⟨w1,hw1⟩:∃ w1,w1=w.alloc (.cells #[.int .i64 v,.string sp,a] 24):=⟨_,rfl⟩
 have hg1:w.grownBy w1 none:=by rw[hw1];exact World.grownBy_alloc _ _ _
 have b0:w1.heap[w.heap.size]?=some (.cells #[.int .i64 v,.string sp,a] 24 (0,0)):=by rw[hw1];exact alloc_at _ _
 have hRt:=bright_any A v sp a l w1 (hA.grown hg1) (by omega) hk hsp (hB.errs.grown hg1)
 rw[hr] at hRt
 have HRt:=hid hRt
 have gz:GoodW 0 De.St.zero:=GoodW.zero
 have g1:=gz.step (wOpen 48) rfl (by simp[wOpen,De.none0])
 have g2:=g1.step (wInt v) rfl (by simp[wInt,De.none0])
 have g3:=g2.step (wTxt 24 sp) rfl (fun x hx=>strL_lt sp x hx)
 have g4:GoodW 60 (putAns (De.step (De.step (De.step De.St.zero (wOpen 48)) (wInt v)) (wTxt 24 sp)) l):=by
  have h:=stA_good g3 hok l.length (Nat.le_refl _)
  have e:putAns (De.step (De.step (De.step De.St.zero (wOpen 48)) (wInt v)) (wTxt 24 sp)) l=De.step (stA (De.step (De.step (De.step De.St.zero (wOpen 48)) (wInt v)) (wTxt 24 sp)) l l.length) wClose:=by unfold putAns stA;rw[List.take_length]
  rw[e]
  exact (h.step wClose rfl (by simp[wClose,De.none0])).mono (by omega)
 have g5:=g4.step wClose rfl (by simp[wClose,De.none0])
 have HOp:=hid (fun b F' W (h:PrW A w F' b De.St.zero W)=>prOpen_step h hB (wOpen 48) rfl)
 have HIn:=hid (fun b F' W (h:PrW A w F' b (De.step De.St.zero (wOpen 48)) W)=>prInt_any h hB (g1.lim.mono (by omega)) (wInt v) rfl ⟨by show -9223372036854775808≤v;omega,by show v≤9223372036854775807;omega⟩)
 have HTx:=hid (fun b F' W (h:PrW A w F' b (De.step (De.step De.St.zero (wOpen 48)) (wInt v)) W)=>prText_any h hB (g2.lim.mono (by omega)) (wTxt 24 sp) rfl ⟨by show (-9223372036854775808:Int)≤24;decide,by show (24:Int)≤9223372036854775807;decide⟩ sp rfl hsp)
 have HRo:=hid (fun b F' W a0 c (ha:a=.slice a0 l.length c) (h:PrW A w F' b (De.step (De.step (De.step De.St.zero (wOpen 48)) (wInt v)) (wTxt 24 sp)) W)=>brows_any l a0 l.length c h hB g3 (by omega) hok hk rfl (fun W' hu=>by rw[←ha];exact hA.of_upto h.base (fun k hf=>(h.own k hf).1) hu))
 have HCl:=hid (fun b F' W (h:PrW A w F' b (putAns (De.step (De.step (De.step De.St.zero (wOpen 48)) (wInt v)) (wTxt 24 sp)) l) W)=>prClose_any h hB.errs (g4.lim.mono (by omega)) (fun p hp=>(g4.good.op p hp).1) wClose rfl)
 have HD:=hid (fun b F' W (h:PrW A w F' b (De.step (putAns (De.step (De.step (De.step De.St.zero (wOpen 48)) (wInt v)) (wTxt 24 sp)) l) wClose) W)=>(prDone_any h hB.errs (g5.lim.mono (by omega))).mono (fun e w' hp=>(show w.grownBy w' none∧PDnPost A W w' _ e from ⟨grown_trans h.base hp.1,hp⟩)))
 have hpp:putBd ⟨v,sp,l⟩=De.step (putAns (De.step (De.step (De.step De.St.zero (wOpen 48)) (wInt v)) (wTxt 24 sp)) l) wClose:=rfl
 rw[hpp]
 have hn1:(wOpen 48).n=48:=rfl
 have hn2:(wInt v).n=v:=rfl
 have hn3:(wTxt 24 sp).n=24:=rfl
 rw[hn1] at HOp
 rw[hn2] at HIn
 rw[hn3] at HTx
 generalize De.step (putAns (De.step (De.step (De.step De.St.zero (wOpen 48)) (wInt v)) (wTxt 24 sp)) l) wClose=s5 at *
 generalize putAns (De.step (De.step (De.step De.St.zero (wOpen 48)) (wInt v)) (wTxt 24 sp)) l=s4 at *
 generalize De.step (De.step (De.step De.St.zero (wOpen 48)) (wInt v)) (wTxt 24 sp)=s3 at *
 generalize De.step (De.step De.St.zero (wOpen 48)) (wInt v)=s2 at *
 generalize De.step De.St.zero (wOpen 48)=s1 at *
 obtain ⟨a1,ag,ao,c1,rfl,-,-,-⟩:=hA.form
 have HRo1:=hid (fun b F' W=>HRo.out b F' W a1 c1 rfl)
 generalize l.length=n at *
 have HW1:=hid hw1
 have HB0:=hid b0
 have HG1:=hid hg1
 clear hA hr hk hsp hB hv hok h8 hw1 b0 hRt gz g1 g2 g3 g4 g5 hpp hn1 hn2 hn3 HRo
 have key:∀ (R:Except Nat (List Nat)),R=De.done s5→Calls Tryz.prog 6 #[.agg #[.int .i64 v,.string sp,.slice a1 n c1]] w fun e w'=>w.grownBy w' none∧PDnPost A w w' R e:=by
  intro R hR
  rw[←hR] at HD
  clear hR
  cases R with
  |ok L =>
   obtain ⟨m,hm⟩:∃ m,m=L.length:=⟨_,rfl⟩
   have HM:=hid hm
   clear hm
   go_enter Tryz.func6,Tryz.ntmps6
   go_wp2_with (first
    |(rw[←HW1.out];refine wpList_load_row (by rfl) 24 (.tmp 1) (by rfl) w.heap.size (by rfl) 24 #[.int .i64 v,.string sp,.slice a1 n c1] (0,0) _ HB0.out Tryz.underlying24 rfl hI ?_)
    |(go_at_call 8;(try rw[←HW1.out]);refine HRt.out.mono ?_;rintro e w2 ⟨rfl,hg2⟩;have HG2:=hid (grown_trans HG1.out hg2);have HB2:=hid (hold_b3 HB0.out hg2);obtain ⟨w3,hw3⟩:∃ w3,w3=w2.alloc (.cells #[.slice none 0 0,.slice none 0 0,.nilIface] 52):=⟨_,rfl⟩;have R3:Hid (RunW A w w3 (fun k=>k=w2.heap.size) (fun k=>k=w2.heap.size) w2.heap.size De.St.zero w3):=hid (by rw[hw3];exact RunW.start (PrW.new HG2.out));have HB3:Hid (w3.heap[w.heap.size]?=some (.cells #[.int .i64 v,.string sp,.slice a1 n c1] 24 (0,0))):=hid (by rw[hw3];exact alloc_keep HB2.out);have HNe:Hid (w.heap.size≠w2.heap.size):=hid (Nat.ne_of_lt (blk_lt HB2.out));have HW3:=hid hw3;clear hg2 hw3)
    |(go_at_call 18;(try rw[←HW3.out]);(with_reducible refine (HOp.out _ _ _ R3.out.wrt).mono ?_);rintro e w4 hp;have he:=hp.1;subst he;have R4:=hid (R3.out.call hp);have b4:=(R4.out.kept (blk_lt HB3.out) HNe.out).trans HB3.out;have d0:=cell_blk b4 0 rfl;clear hp b4)
    |(go_at_call 19;(with_reducible refine (HIn.out _ _ _ R4.out.wrt).mono ?_);rintro e w5 hp;have he:=hp.1;subst he;have R5:=hid (R4.out.call hp);have b5:=(R5.out.kept (blk_lt HB3.out) HNe.out).trans HB3.out;have d1:=cell_blk b5 1 rfl;clear hp b5)
    |(go_at_call 20;(with_reducible refine (HTx.out _ _ _ R5.out.wrt).mono ?_);rintro e w6 hp;have he:=hp.1;subst he;have R6:=hid (R5.out.call hp);have b6:=(R6.out.kept (blk_lt HB3.out) HNe.out).trans HB3.out;have d2:=cell_blk b6 2 rfl;clear hp b6)
    |(go_at_call 21;(with_reducible refine (HRo1.out _ _ _ R6.out.wrt).mono ?_);rintro e w7 hp;have he:=hp.1;subst he;have R7:=hid (R6.out.call hp);clear hp)
    |(go_at_call 26;(with_reducible refine (HCl.out _ _ _ R7.out.wrt).mono ?_);rintro e w8 hp;have he:=hp.1;subst he;have R8:=hid (R7.out.call hp);clear hp)
    |(go_at_call 27;(with_reducible refine (HD.out _ _ _ R8.out.wrt).mono ?_);rintro e w9 ⟨hg9,-,a9,c9,rfl,hb9,hw9⟩;have G9:=hid hg9;have B9:=hid (And.intro hb9 hw9);clear hg9 hb9 hw9))
   go_ret2
   exact ⟨G9.out,G9.out,_,_,rfl,B9.out.1,B9.out.2⟩
  |error k9 =>
   go_enter Tryz.func6,Tryz.ntmps6
   go_wp2_with (first
    |(rw[←HW1.out];refine wpList_load_row (by rfl) 24 (.tmp 1) (by rfl) w.heap.size (by rfl) 24 #[.int .i64 v,.string sp,.slice a1 n c1] (0,0) _ HB0.out Tryz.underlying24 rfl hI ?_)
    |(go_at_call 8;(try rw[←HW1.out]);refine HRt.out.mono ?_;rintro e w2 ⟨rfl,hg2⟩;have HG2:=hid (grown_trans HG1.out hg2);have HB2:=hid (hold_b3 HB0.out hg2);obtain ⟨w3,hw3⟩:∃ w3,w3=w2.alloc (.cells #[.slice none 0 0,.slice none 0 0,.nilIface] 52):=⟨_,rfl⟩;have R3:Hid (RunW A w w3 (fun k=>k=w2.heap.size) (fun k=>k=w2.heap.size) w2.heap.size De.St.zero w3):=hid (by rw[hw3];exact RunW.start (PrW.new HG2.out));have HB3:Hid (w3.heap[w.heap.size]?=some (.cells #[.int .i64 v,.string sp,.slice a1 n c1] 24 (0,0))):=hid (by rw[hw3];exact alloc_keep HB2.out);have HNe:Hid (w.heap.size≠w2.heap.size):=hid (Nat.ne_of_lt (blk_lt HB2.out));have HW3:=hid hw3;clear hg2 hw3)
    |(go_at_call 18;(try rw[←HW3.out]);(with_reducible refine (HOp.out _ _ _ R3.out.wrt).mono ?_);rintro e w4 hp;have he:=hp.1;subst he;have R4:=hid (R3.out.call hp);have b4:=(R4.out.kept (blk_lt HB3.out) HNe.out).trans HB3.out;have d0:=cell_blk b4 0 rfl;clear hp b4)
    |(go_at_call 19;(with_reducible refine (HIn.out _ _ _ R4.out.wrt).mono ?_);rintro e w5 hp;have he:=hp.1;subst he;have R5:=hid (R4.out.call hp);have b5:=(R5.out.kept (blk_lt HB3.out) HNe.out).trans HB3.out;have d1:=cell_blk b5 1 rfl;clear hp b5)
    |(go_at_call 20;(with_reducible refine (HTx.out _ _ _ R5.out.wrt).mono ?_);rintro e w6 hp;have he:=hp.1;subst he;have R6:=hid (R5.out.call hp);have b6:=(R6.out.kept (blk_lt HB3.out) HNe.out).trans HB3.out;have d2:=cell_blk b6 2 rfl;clear hp b6)
    |(go_at_call 21;(with_reducible refine (HRo1.out _ _ _ R6.out.wrt).mono ?_);rintro e w7 hp;have he:=hp.1;subst he;have R7:=hid (R6.out.call hp);clear hp)
    |(go_at_call 26;(with_reducible refine (HCl.out _ _ _ R7.out.wrt).mono ?_);rintro e w8 hp;have he:=hp.1;subst he;have R8:=hid (R7.out.call hp);clear hp)
    |(go_at_call 27;(with_reducible refine (HD.out _ _ _ R8.out.wrt).mono ?_);rintro e w9 ⟨hg9,-,rfl⟩;have G9:=hid hg9;clear hg9))
   go_ret2
   exact ⟨G9.out,G9.out,rfl⟩
 exact key _ rfl
def aK:ByteArray:=⟨#[48,48,48,48,48,48,48,48,48,48,48,48,48,48,48,48,48,48,48,48,48,48,48,48,48,48,48,48,48,48,48,48]⟩
def aS:ByteArray:=⟨#[97]⟩
theorem aBd_out:(without ⟨1,aS,[⟨1,aK,0,5⟩]⟩ 1).1=4:=by decide +kernel
theorem aBd_L:∃ L,De.done (putBd ⟨1,aS,[⟨1,aK,0,5⟩]⟩)=.ok L∧20<L.length:=by
 have h:(match De.done (putBd ⟨1,aS,[⟨1,aK,0,5⟩]⟩) with | .ok L=>decide (20<L.length) | .error _=>false)=true:=by decide +kernel
 generalize De.done (putBd ⟨1,aS,[⟨1,aK,0,5⟩]⟩)=R at *
 cases R with
 |ok L=>exact ⟨L,rfl,by simpa using h⟩
 |error k=>cases h
theorem alive13_any {A:Nat→Addr} (w:World) (hB:BodiesOf A w) :
  Calls Tryz.prog 4 #[] w fun e w'=>e=.returned (.bool true)∧w.grownBy w' none:=by
 have hI:=bd_info
 obtain ⟨L,hL,h20⟩:=aBd_L
 obtain ⟨w1,hw1⟩:∃ w1,w1=(w.alloc (.cells #[.int .i64 1,.string aK,.int .i64 0,.int .i64 5] 48)).alloc (.cells #[.int .i64 1,.string aS,.slice (some ⟨w.heap.size,0,none⟩) 1 1] 24):=⟨_,rfl⟩
 have hg1:w.grownBy w1 none:=by rw[hw1];exact grown_alloc (World.grownBy_alloc _ _ _) _
 have b0:w1.heap[w.heap.size]?=some (.cells #[.int .i64 1,.string aK,.int .i64 0,.int .i64 5] 48 (0,0)):=by rw[hw1];exact alloc2_old _ _ _
 have b1:w1.heap[w.heap.size+1]?=some (.cells #[.int .i64 1,.string aS,.slice (some ⟨w.heap.size,0,none⟩) 1 1] 24 (0,0)):=by rw[hw1];exact alloc2_new _ _ _
 have hA:Ans w1 (.slice (some ⟨w.heap.size,0,none⟩) 1 1) [⟨1,aK,0,5⟩]:=Ans.lit (x:=⟨1,aK,0,5⟩) b0
 have hks:∀ x∈[(⟨1,aK,0,5⟩:An)],x.k.size≤1000:=fun x hx=>by rw[List.mem_singleton.1 hx];decide
 have hB1:=BodiesOf.up9 hB hg1
 have HWo:=hid (bwithout_any A 1 aS (.slice (some ⟨w.heap.size,0,none⟩) 1 1) [⟨1,aK,0,5⟩] 1 w1 hA (by decide) hks (by decide) hB1.errs (by decide) (by decide))
 have HBy:=hid (fun W (hW:w1.grownBy W none)=>(by
  have h:=bBytes_any (A:=A) 1 aS (.slice (some ⟨w.heap.size,0,none⟩) 1 1) [⟨1,aK,0,5⟩] W (hA.grown hW) (by decide +kernel) hks (by decide) (BodiesOf.up9 hB1 hW)
  rw[hL] at h
  exact h:Calls Tryz.prog 6 #[.agg #[.int .i64 1,.string aS,.slice (some ⟨w.heap.size,0,none⟩) 1 1]] W fun e w'=>W.grownBy w' none∧PDnPost A W w' (.ok L) e))
 have h4:=aBd_out
 obtain ⟨R,hR⟩:∃ R,R=without ⟨1,aS,[⟨1,aK,0,5⟩]⟩ 1:=⟨_,rfl⟩
 rw[←hR] at HWo h4
 have HNm:=hid (fun W (hW:w.grownBy W none)=>num_of A 4 (by decide) W (hB.errs.grown hW))
 obtain ⟨m,hm⟩:∃ m,m=L.length:=⟨_,rfl⟩
 rw[←hm] at h20
 have h20i:(20:Int)<(m:Int):=by omega
 have HM:=hid hm
 have H4:=hid h4
 have HW1:=hid hw1
 have HB1:=hid b1
 have HG1:=hid hg1
 have hs:aS=⟨#[97]⟩:=rfl
 have hk:aK=⟨#[48,48,48,48,48,48,48,48,48,48,48,48,48,48,48,48,48,48,48,48,48,48,48,48,48,48,48,48,48,48,48,48]⟩:=rfl
 have HSs:=hid hs
 have HKk:=hid hk
 clear hB hL hw1 hg1 b0 b1 hA hks hB1 hR hm h4 hs hk
 go_enter Tryz.func4,Tryz.ntmps4
 go_wp2_with (first
  |(rw[←HSs.out,←HKk.out,←HW1.out];refine wpList_load_row (by rfl) 24 (.tmp 1) (by rfl) (w.heap.size+1) (by rfl) 24 #[.int .i64 1,.string aS,.slice (some ⟨w.heap.size,0,none⟩) 1 1] (0,0) _ HB1.out Tryz.underlying24 rfl hI ?_)
  |(go_at_call 17;refine HWo.out.mono ?_;rintro e w2 ⟨p2,rfl,ha,hf,hg⟩;obtain ⟨pa,_,_,pc,rfl,-,-,-⟩:=ha.form;rw[H4.out];obtain ⟨w3,hw3⟩:∃ w3,w3=w2.alloc (.cells #[.int .i64 R.2.v,.string R.2.sp,.slice pa R.2.l.length pc] 24):=⟨_,rfl⟩;have hg3:w1.grownBy w3 none:=(by rw[hw3];exact grown_alloc hg _);have HG3:=hid hg3;have HB3:=hid (hold_b3 HB1.out hg3);have HW3:=hid hw3;clear ha hf hg hw3 hg3)
  |(rw[←HW3.out];refine wpList_load_row (by rfl) 24 (.tmp 1) (by rfl) (w.heap.size+1) (by rfl) 24 #[.int .i64 1,.string aS,.slice (some ⟨w.heap.size,0,none⟩) 1 1] (0,0) _ HB3.out Tryz.underlying24 rfl hI ?_)
  |(go_at_call 6;refine (HBy.out _ HG3.out).mono ?_;rintro e w4 ⟨hg4,-,a4,c4,rfl,-,-⟩;rw[←HM.out];have HG4:=hid (grown_trans HG1.out (grown_trans HG3.out hg4));clear hg4)
  |(go_at_call 11;refine (HNm.out _ HG4.out).mono ?_;rintro e w5 ⟨rfl,hg5⟩;have HG5:=hid (grown_trans HG4.out hg5);clear hg5))
 go_ret
 exact ⟨rfl,HG5.out⟩
end Go.Proofs.YtjjbkpjjmbfdhaaGreatDoor
namespace Go.Proofs.YtjjbkpjjmbfdhaaGreatDoor
open Go.Lib (hid)
open Go.ChangeShapes Go.WideShapes Go.ChangeAt Go.RowKit Bu
section
variable {H:Type} {P:Program} {enc:TypeId×Value→H} {w:World} {base:Nat} {spare:Nat→Bool} {held:Bool}
theorem trod_struct4b {t:TypeId} {f0 f1 f2 f3:Field} {fuel:Nat} {cs:List Value} {x:DataW H×List MemPlace} (ht:P.underlying t=some (.struct #[f0,f1,f2,f3])) (h:DataW.trod enc P w base spare held fuel t cs=some x) :
  ∃ y0 y1 y2 y3 n,cs.length=P.cellsOf t∧DataW.trod enc P w base spare held n f0.type ((cs.drop f0.offset).take (P.cellsOf f0.type))=some y0 ∧
   DataW.trod enc P w base spare held n f1.type ((cs.drop f1.offset).take (P.cellsOf f1.type))=some y1∧DataW.trod enc P w base spare held n f2.type ((cs.drop f2.offset).take (P.cellsOf f2.type))=some y2 ∧
   DataW.trod enc P w base spare held n f3.type ((cs.drop f3.offset).take (P.cellsOf f3.type))=some y3:=by
 obtain ⟨xs,n,_,rfl,hl,hlen,hf⟩:=DataW.trod_struct ht h
 match xs,hlen with
 |[y0,y1,y2,y3],_=>exact ⟨y0,y1,y2,y3,n,hl,by simpa using hf 0 f0 rfl,by simpa using hf 1 f1 rfl,by simpa using hf 2 f2 rfl,by simpa using hf 3 f3 rfl⟩
end
theorem cAnc:Tryz.prog.cellsOf 48=4:=by kernel_rfl
theorem cells_of_ans {W:World} {g off:Nat} {l:List An} (h:∀ i,i<l.length→W.cell? ⟨g,off+i*4,none⟩=some (.int .i64 (l.getD i an0).g)∧W.cell? ⟨g,off+i*4+1,none⟩=some (.string (l.getD i an0).k)∧W.cell? ⟨g,off+i*4+2,none⟩=some (.int .i64 (l.getD i an0).f)∧W.cell? ⟨g,off+i*4+3,none⟩=some (.int .i64 (l.getD i an0).t)) :
  ∀ j u,(cellsA l)[j]?=some u→W.cell? ⟨g,off+j,none⟩=some u:=by
 intro t u hu
 have hl:t<(cellsA l).length:=(List.getElem?_eq_some_iff.1 hu).1
 rw[cellsA_len] at hl
 have hi:t/4<l.length:=by omega
 obtain ⟨k0,k1,k2,k3⟩:=cellsA_at l (t/4) hi
 obtain ⟨c0,c1,c2,c3⟩:=h (t/4) hi
 rcases (by omega:t%4=0∨t%4=1∨t%4=2∨t%4=3) with e|e|e|e
 ·rw[show t/4*4=t by omega,hu] at k0
  rw[show off+t=off+t/4*4 by omega,c0,Option.some.inj k0]
 ·rw[show t/4*4+1=t by omega,hu] at k1
  rw[show off+t=off+t/4*4+1 by omega,c1,Option.some.inj k1]
 ·rw[show t/4*4+2=t by omega,hu] at k2
  rw[show off+t=off+t/4*4+2 by omega,c2,Option.some.inj k2]
 ·rw[show t/4*4+3=t by omega,hu] at k3
  rw[show off+t=off+t/4*4+3 by omega,c3,Option.some.inj k3]
theorem an_trod {H:Type} {enc:TypeId×Value→H} {W:World} {base:Nat} {sp:Nat→Bool} {held:Bool} {fuel:Nat} {c0 c1 c2 c3:Value} {y:DataW H×List MemPlace} (hy':DataW.trod enc Tryz.prog W base sp held fuel 48 [c0,c1,c2,c3]=some y) :
  ∃ x:An,c0=.int .i64 x.g∧c1=.string x.k∧c2=.int .i64 x.f∧c3=.int .i64 x.t:=by
 obtain ⟨y0,y1,y2,y3,k,hlen,g0,g1,g2,g3⟩:=trod_struct4b Tryz.underlying48 hy'
 simp only[cInt,cStr,List.drop_zero,List.drop_succ_cons,List.take_succ_cons,List.take_zero] at g0 g1 g2 g3
 obtain ⟨n0,e0,_,b0⟩:=DataW.trod_int Tryz.underlying3 g0
 obtain ⟨n1,e1,_⟩:=DataW.trod_string Tryz.underlying9 g1
 obtain ⟨n2,e2,_,b2⟩:=DataW.trod_int Tryz.underlying3 g2
 obtain ⟨n3,e3,_,b3⟩:=DataW.trod_int Tryz.underlying3 g3
 obtain rfl:=(List.cons.inj e0).1
 obtain rfl:=(List.cons.inj e1).1
 obtain rfl:=(List.cons.inj e2).1
 obtain rfl:=(List.cons.inj e3).1
 exact ⟨⟨n0,n1,n2,n3⟩,rfl,rfl,rfl,rfl⟩
theorem four_of {cs:List Value} (h:cs.length=4):∃ a b c d,cs=[a,b,c,d]:=by
 match cs,h with
 |[a,b,c,d],_=>exact ⟨a,b,c,d,rfl⟩
theorem add_zero9 (a:Addr):a.add 0=a:=by unfold Addr.add;split <;> simp_all
theorem ans_in {H:Type} {enc:TypeId×Value→H} {W:World} {base:Nat} {sp:Nat→Bool} {held:Bool} {fuel:Nat} {cs:List Value} {y:DataW H×List MemPlace} (hf:DataW.trod enc Tryz.prog W base sp held fuel 22 cs=some y) :
  ∃ (v:Value) (l:List An),cs=[v]∧Ans W v l:=by
 rcases DataW.trod_slice Tryz.underlying22 hf with ⟨rfl,_⟩|⟨a,len,cap,elems,rest,m,_,rfl,_,_,hl,hm,hel,hall,_,_⟩
 ·exact ⟨_,[],rfl,Ans.nil W⟩
 ·have each:∀ i,i<len→∃ x:An,W.cell? (a.add (i*4))=some (.int .i64 x.g)∧W.cell? ((a.add (i*4)).add 1)=some (.string x.k)∧W.cell? ((a.add (i*4)).add 2)=some (.int .i64 x.f)∧W.cell? ((a.add (i*4)).add 3)=some (.int .i64 x.t):=fun i hi=>by
   have h1:=hall i hi
   rw[List.getElem?_eq_getElem (by omega),cAnc,Option.bind_eq_some_iff] at h1
   obtain ⟨cs',hc',hy'⟩:=h1
   obtain ⟨_,hlen2,hcs⟩:=World.cells?_some hc'
   obtain ⟨c0,c1,c2,c3,rfl⟩:=four_of hlen2
   obtain ⟨x,rfl,rfl,rfl,rfl⟩:=an_trod hy'
   have q0:=hcs 0 (by omega)
   rw[add_zero9] at q0
   exact ⟨x,by simpa using q0,by simpa using hcs 1 (by omega),by simpa using hcs 2 (by omega),by simpa using hcs 3 (by omega)⟩
  rcases Nat.eq_zero_or_pos len with h0|h0
  ·subst h0
   exact ⟨.slice (some a) 0 cap,[],rfl,⟨rfl,some a,0,0,cap,rfl,fun h=>absurd h (Nat.lt_irrefl _),fun j v hj=>by cases hj⟩,Whole0.some _ _ _⟩
  ·obtain ⟨b,off,spot⟩:=a
   obtain ⟨x0,hc0,_⟩:=each 0 h0
   have hspot:spot=none:=by simpa [Addr.add] using World.cell?_spot hc0
   subst hspot
   have hg:∀ i:Nat,∃ p:An,i<len→W.cell? ⟨b,off+i*4,none⟩=some (.int .i64 p.g)∧W.cell? ⟨b,off+i*4+1,none⟩=some (.string p.k)∧W.cell? ⟨b,off+i*4+2,none⟩=some (.int .i64 p.f)∧W.cell? ⟨b,off+i*4+3,none⟩=some (.int .i64 p.t):=fun i=>by
    by_cases hi:i<len
    ·obtain ⟨x,h1,h2,h3,h4⟩:=each i hi
     simp only[addr_addO] at h1 h2 h3 h4
     exact ⟨x,fun _=>⟨h1,h2,h3,h4⟩⟩
    ·exact ⟨an0,fun h=>absurd h hi⟩
   refine ⟨_,(List.range len).map fun i=>Classical.choose (hg i),rfl,⟨by rw[cellsA_len],some ⟨b,off,none⟩,b,off,cap,by simp,fun _=>⟨rfl,?_⟩,cells_of_ans (fun i hi=>?_)⟩,Whole0.some _ _ _⟩
   ·have:=cell_lt hc0
    simpa [Addr.add] using this
   ·have hi':i<len:=by simpa using hi
    have h1:=Classical.choose_spec (hg i) hi'
    have e:((List.range len).map fun i=>Classical.choose (hg i)).getD i an0=Classical.choose (hg i):=by simp[List.getD_eq_getElem?_getD,hi']
    rw[e]
    exact h1
theorem lens_genB {W:World} {L:List (String×DataW Unit)} (h:laidMet Tryz.prog L W) (hm:("bulla/moments.lengths",(Rows.laid_bulla_moments_lengths:DataW Unit))∈L):Lens W:=by
 obtain ⟨ps,hV,_,_⟩:=h
 obtain ⟨g,t,cs,fuel,p,e1,e2,e3,e4⟩:=laid_mem6 hV hm
 obtain rfl:=Option.some.inj (gLen.symm.trans e1)
 obtain rfl:=Option.some.inj (tLen.symm.trans e2)
 rw[dLen] at e4
 have hT:Lib.TabIs Tryz.prog W "bulla/moments.lengths" .i64 monthsL:=by
  unfold Lib.TabIs
  rw[e3,←Lib.cells_of_tab Tryz.underlying233 Tryz.underlying3 mcInt c12 e4]
 refine ⟨fun k hk=>?_⟩
 have:=hT.cell gLen k (by simpa [monthsL] using hk)
 exact this
abbrev laidsBS:List (String×DataW Unit):=("unicode/utf8.acceptRanges",Rows.laid_unicode_utf8_acceptRanges) ::
 (laids28++[("bulla/moments.lengths",Rows.laid_bulla_moments_lengths),("unicode/utf8.first",Rows.laid_unicode_utf8_first)])
end Go.Proofs.YtjjbkpjjmbfdhaaGreatDoor
