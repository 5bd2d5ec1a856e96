import Derived.Test.YtijkaknggdaajaaGreatDoorZt00
import Derived.Test.YtijkaknggdaajaaGreatDoorZt03
import Derived.Test.YtijkaknggdaajaaGreatDoorZt04
import Derived.Test.YtijkaknggdaajaaGreatDoorZt13
import Derived.Test.YtijkaknggdaajaaGreatDoorZt14
import Derived.Test.YtijkaknggdaajaaGreatDoorZt16
import Derived.Test.YtijkaknggdaajaaGreatDoorZt17
import Derived.Test.YtijkaknggdaajaaGreatDoorZt18
import Derived.Test.YtijkaknggdaajaaGreatDoorZt23
import Derived.Test.YtijkaknggdaajaaGreatDoorZt29
import Derived.Test.YtijkaknggdaajaaGreatDoorZt30
import Derived.Test.YtijkaknggdaajaaGreatDoorZt31
import Derived.Test.YtijkaknggdaajaaGreatDoorZt32
import Derived.Test.YtijkaknggdaajaaGreatDoorZt33
import Derived.Test.YtijkaknggdaajaaGreatDoorZt34
import Derived.Test.YtijkaknggdaajaaGreatDoorZt35
import Derived.Deep.QuietTactic
import Derived.BigQuiet
import Derived.Test.YtijkaknggdaajaaGreatDoorChecked
import Derived.WalkKit
import Derived.Lib.Hide
import Derived.Shelf.Small.Bits
import Derived.Test.YtijkaknggdaajaaGreatDoorProg
set_option linter.unusedVariables false
set_option linter.unusedSimpArgs false
set_option maxRecDepth 100000
set_option maxHeartbeats 4000000
namespace Go.Proofs.YtijkaknggdaajaaGreatDoor
open Lib (hid)
def szR (s:De.Rd):Nat:=if s.e=0 then s.top.length else 0
structure LeftI (j:Nat) (s:De.Rd):Prop where
 sz:j+szR s≤2000
 top:s.top.length≤2000
 lev:s.left.length≤17
 e28:s.e≤28
theorem first_len {l:List Nat} {t i n:Nat} (h:Tl.first l=.ok (t,i,n)):2≤l.length:=by
 match l,h with
 |[],h=>exact absurd h (by simp[Tl.first])
 |[x],h =>
  rw[Tl.first] at h
  split at h
  ·cases h
  ·exact absurd h (by simp[Tl.rdLen])
 |x :: y :: r,_=>simp
theorem next_less {s:De.Rd} {tag:Int}:(De.next s tag).1.left=s.left∧(De.next s tag).1.top.length≤s.top.length∧∀ x y,(De.next s tag).2=some (x,y)→(De.next s tag).1.e=s.e∧(De.next s tag).1.top.length+2≤s.top.length∧x.length≤s.top.length:=by
 unfold De.next
 by_cases he:s.e≠0
 ·rw[if_pos he];exact ⟨rfl,Nat.le_refl _,fun x y e=>by cases e⟩
 ·rw[if_neg he]
  cases hf:Tl.first s.top with
  |error k=>exact ⟨rfl,Nat.le_refl _,fun x y e=>by cases e⟩
  |ok p =>
   obtain ⟨t,i,n⟩:=p
   simp only
   by_cases ht:tag≠0∧(t:Int)≠tag
   ·rw[if_pos ht];exact ⟨rfl,Nat.le_refl _,fun x y e=>by cases e⟩
   ·rw[if_neg ht]
    have h2:=Tl.first_two hf
    have hne:s.top≠[]:=by
     intro h0;rw[h0] at hf;exact absurd hf (by simp[Tl.first])
    refine ⟨rfl,by rw[List.length_drop];omega,fun x y e=>⟨rfl,?_,?_⟩⟩
    ·have h3:=first_len hf
     rw[List.length_drop];omega
    ·obtain ⟨rfl,_⟩:=Prod.mk.inj (Option.some.inj e)
     rw[List.length_take,List.length_drop];omega
theorem LeftI.le {j:Nat} {s:De.Rd} (h:LeftI j s):j≤2000:=by have:=h.sz;omega
theorem ask_leave (s:De.Rd) (tag least most:Int):(De.ask s 2 tag least most).1=De.leave s:=by
 unfold De.ask
 by_cases he:s.e≠0
 ·rw[if_pos he,leave_e he]
 ·rw[if_neg he,if_neg (by decide),if_pos rfl]
theorem ask_enter (s:De.Rd) (tag least most:Int):(De.ask s 1 tag least most).1=(De.enter s tag).1:=by
 unfold De.ask
 by_cases he:s.e≠0
 ·rw[if_pos he];unfold De.enter;rw[if_pos he]
 ·rw[if_neg he,if_pos rfl]
end Go.Proofs.YtijkaknggdaajaaGreatDoor
namespace Go.Proofs.YtijkaknggdaajaaGreatDoor
open Lib (hid)
open Go.RowKit
theorem prRows_part {A:Nat→Addr} {W0 w:World} {F:Nat→Prop} {b:Nat} {s:De.St} (h:PrW A W0 F b s w) (hE:AllErrs W0 A) (tag:Int) (xs:List Na.Pr) (a:Option Addr) (n c:Nat) (hxs:xs.length=n) (hn:n≤9223372036854775807) (hB:∀ W,Upto F w W→Prts W (.slice a n c) xs) (f:Nat) (caps:Array Value) (st:Nat→De.St)
  (hen:∀ args w,(callFunc f args).run Tryz.prog w=.ok (.enter f args) w) (h0:st 0=if s.e=0 then De.opn s tag else s)
  (hcall:∀ j F' W,j<n→PrW A W0 F' b (st j) W→Calls Tryz.prog f (#[.pointer (some ⟨b,0,none⟩),.agg #[.string (xs.getD j (Na.e0,Na.e0)).1,.string (xs.getD j (Na.e0,Na.e0)).2]]++caps) W fun e w'=>PrPost A W0 F' b W w' (st (j+1)) e)
  (hcl:∀ F' W,PrW A W0 F' b (st n) W→Calls Tryz.prog 29 #[.pointer (some ⟨b,0,none⟩)] W fun e w'=>PrPost A W0 F' b W w' (De.step (st n) { De.none0 with kind:=2 }) e) :
  Calls Tryz.prog 61 #[.pointer (some ⟨b,0,none⟩),.int .i64 tag,.slice a n c,.func (.func f) #[] caps] w fun e w'=>PrPost A W0 F b w w' (De.step (st n) { De.none0 with kind:=2 }) e:=by
 have hI:(Tryz.prog.info? 88).map (·.size)=some 2:=by kernel_rfl
 have HX:=hid h
 have hfn:∀ W,(binOp .neq 112 (.func (.func f) #[] caps) .nilFunc).run Tryz.prog W=.ok (.bool true) W:=fun W=>rfl
 have HB:=hid hB
 have HXs:=hid hxs
 have HCl:=hid hcall
 have HCs:=hid hcl
 have HO:=hid (prOpen_any h hE tag)
 rw[←h0] at HO
 obtain ⟨T,hT⟩:∃ T,T=De.step (st n) { De.none0 with kind:=2 }:=⟨_,rfl⟩
 rw[←hT] at HCs ⊢
 clear h hE hxs hB hcall hcl h0 hT
 go_enter Tryz.func61,Tryz.ntmps61
 go_wp2_with (go_at_call 24;refine HO.out.mono ?_;rintro e w2 hp;have he:=hp.1;subst he;have R2:Hid (∃ F',RunW A W0 w F F' b (st 0) w2):=hid ⟨_,RunW.first hp⟩;clear hp)
 go_loopw [15] (fun i wr=>∃ (j:Nat) (F':Nat→Prop),j≤n∧i=.int .i64 j∧RunW A W0 w F F' b (st j) wr) (fun i _=>n-(intOf i).toNat)
 case atStart =>
  obtain ⟨F',hF'⟩:=R2.out
  exact ⟨0,F',Nat.zero_le _,rfl,hF'⟩
 case round =>
  obtain ⟨j,F',hj,rfl,hR⟩:=hrel
  have R:=hid hR
  by_cases hjn:j<n
  ·have HC0:=hid (fun W (hW:PrW A W0 F' b (st j) W)=>HCl.out j F' W hjn hW)
   obtain ⟨_,sb,so,_,hv,h3,h4⟩:=HB.out wr hR.upto
   rw[HXs.out] at h3 h4 hv
   simp only[Value.slice.injEq] at hv
   obtain ⟨rfl,_,rfl⟩:=hv
   obtain ⟨rfl,hsb⟩:=h3 (by omega)
   have c0:=(h4 j hjn).1
   have c1:=(h4 j hjn).2
   generalize (xs.getD j (Na.e0,Na.e0)).1=p1 at *
   generalize (xs.getD j (Na.e0,Na.e0)).2=p2 at *
   obtain ⟨w4,hw4⟩:∃ w4,w4=wr.alloc (.cells #[.string p1,.string p2] 88):=⟨_,rfl⟩
   have hg4:wr.grownBy w4 none:=by rw[hw4];exact World.grownBy_alloc _ _ _
   have HB4:Hid (w4.heap[wr.heap.size]?=some (.cells #[.string p1,.string p2] 88 (0,0))):=hid (by rw[hw4];exact alloc_at _ _)
   have R4:=hid (R.out.still hg4)
   have HC:=hid (HC0.out w4 R4.out.wrt)
   have HW4:=hid hw4
   clear hR h4 h3 hw4 hg4 HC0
   go_wp2_with (first
    |(rw[←HW4.out];refine wpList_load_row (by rfl) 88 (.tmp 9) (by rfl) wr.heap.size (by rfl) 88 #[.string p1,.string p2] (0,0) _ HB4.out Tryz.underlying88 rfl hI ?_)
    |((try rw[←HW4.out]);(with_reducible refine HC.out.mono ?_);rintro e w5 hp;have he:=hp.1;subst he;have R5:=hid (R4.out.call hp);clear hp))
   go_roundw
   case rel=>exact ⟨j+1,_,by omega,by go_num,R5.out⟩
   case measure=>simp[intOf];omega
  ·obtain rfl:j=n:=by omega
   have HC:=hid (HCs.out F' wr hR.wrt)
   clear hR
   go_wp2_with (go_at_call 29;(with_reducible refine HC.out.mono ?_);rintro e w5 hp;have he:=hp.1;subst he;have R5:=hid (R.out.call hp);clear hp)
   go_returns
   exact R5.out.done HX.out.own HX.out.base
def inT (t:Int):Prop:=-9223372036854775808≤t∧t≤9223372036854775807
def isMk (m:Int):Prop:=0≤m∧m<32768
instance (m:Int):Decidable (isMk m):=by unfold isMk;infer_instance
def TxPlain (w:World):Prop:=∀ (s:ByteArray) (W:World),s.size≤2000→w.grownBy W none→Calls Tryz.prog 164 #[.string s] W fun e w'=>W.grownBy w' none∧e=.returned (.bool (Pt.plain (strL s)))
def TxPut (A:Nat→Addr) (w:World):Prop:=∀ (s:ByteArray) (most:Int) (W:World),s.size≤2000→inT most→w.grownBy W none→Calls Tryz.prog 104 #[.string s,.int .i64 most] W fun e w'=>W.grownBy w' none ∧
 if Pt.asked (strL s) most=0 then ∃ a c,e=.returned (.tuple #[.slice a s.size c,.nilIface])∧Bytes w' (.slice a s.size c) (strL s) else ∃ a c,e=.returned (.tuple #[.slice a 0 c,errV A (Pt.asked (strL s) most)])
def TxGet (A:Nat→Addr) (w:World):Prop:=∀ (v:Value) (s:ByteArray) (most:Int) (W:World),s.size≤2000→inT most→w.grownBy W none→Bytes W v (strL s)→Calls Tryz.prog 124 #[v,.int .i64 most] W fun e w'=>W.grownBy w' none ∧
 e=.returned (.tuple (if Pt.asked (strL s) most=0 then #[.string s,.nilIface] else #[.string ⟨#[]⟩,errV A (Pt.asked (strL s) most)]))
abbrev cmpV:Value:=.func (.func 147) #[] #[]
theorem mkFn (fn:Fn) (first cap:Array Value) (w:World):(Instr.makeFunc fn first cap).run Tryz.prog w=.ok (.func fn first cap) w:=rfl
theorem oput_len (l:List Int) {t:List Nat} (h:Od.parse t=.ok l):(Od.put l).length≤2000:=by
 have hr:=((Od.right_iff l).1 (Od.parse_ok h).2).1
 have h1:=Od.rest_len (l.drop 2)
 have h2:=Od.septUpto_len (40*(l.getD 0 0).toNat+(l.getD 1 0).toNat) 6
 rw[List.length_drop] at h1
 show (Od.septUpto _ 6++_).length≤_
 rw[List.length_append]
 omega
theorem asked_pos {l:List Nat} {m:Int} (h:Pt.asked l m=0):0<l.length:=by
 unfold Pt.asked at h
 by_cases h0:l.length=0
 ·rw[if_pos h0] at h;exact absurd h (by decide)
 ·omega
theorem step_putR {s:De.St} {v:De.Val} {t:Nat} {r:Except Nat (List Nat)} (h1:v.kind≠1) (h2:v.kind≠2) (h11:v.kind≠11) (hb:De.body v=match r with
  |.ok l=>.ok (t,l)
  |.error k=>.error k):De.step s v=if s.e=0 then putR s t r else s:=by
 unfold De.step
 by_cases he:s.e=0
 ·rw[if_pos he,if_neg (fun h=>h he),if_neg h1,if_neg h2,if_neg h11]
  unfold De.plainV
  rw[hb]
  cases r <;> rfl
 ·rw[if_neg he,if_pos he]
structure BodiesOf (A:Nat→Addr) (w:World):Prop where
 errs:AllErrs w A
 texts:TxPut A w
 oid:PtSpec A w
theorem enters_any {f:FuncId} {fn:Func} {c:Code} (hf:Tryz.prog.funcs[f]?=some fn) (hname:(fn.name == "runtime.NumGoroutine")=false) (hb:fn.body=some c):∀ args w,(callFunc f args).run Tryz.prog w=.ok (.enter f args) w:=enters_of hf hname hb
theorem prOID_any {A:Nat→Addr} {W0 w:World} {F:Nat→Prop} {b:Nat} {s:De.St} (h:PrW A W0 F b s w) (hA:BodiesOf A W0) (hl:Lim 2000 s) (v:De.Val) (hk:v.kind=8) (S:ByteArray) (hS:strL S=v.t) (hz:S.size≤2000) :
  Calls Tryz.prog 63 #[.pointer (some ⟨b,0,none⟩),.string S] w fun e w'=>PrPost A W0 F b w w' (De.step s v) e:=by
 have HX:=hid h
 obtain ⟨R,hR⟩:∃ R:Except Nat (List Nat),R=(match Od.parse v.t with | .error e=>.error e | .ok l=>.ok (Od.put l)):=⟨_,rfl⟩
 have hst:De.step s v=if s.e=0 then putR s 6 R else s:=step_putR (by omega) (by omega) (by omega) (by rw[hR];unfold De.body;rw[if_neg (by omega),if_neg (by omega),if_neg (by omega),if_neg (by omega),if_neg (by omega),if_pos hk];cases Od.parse v.t <;> rfl)
 have HW:Hid (Calls Tryz.prog 101 #[.pointer (some ⟨b,0,none⟩),.int .i64 6,.string S,.func (.func 102) #[] #[]] w fun e w'=>PrPost A W0 F b w w' (De.step s v) e):=hid (by
  rw[hst]
  refine prWrite_str HX.out hA.errs hl 6 (by decide) _ 102 #[] R ?_ (enters_any Tryz.func102 (by kernel_rfl) rfl) (fun W2 hg2=>?_)
  ·rw[hR]
   cases hp:Od.parse v.t with
   |error e=>exact De.parse_err hp
   |ok l=>exact ⟨by have:=oput_len l hp;omega,De.oput_lt l⟩
  ·rw[hR]
   have hq:=hA.oid S W2 (by omega) (grown_trans HX.out.base hg2)
   rw[hS] at hq
   refine hq.mono (fun e w' hp=>?_)
   obtain ⟨g1,g2⟩:=hp
   refine ⟨g1,?_⟩
   cases hp:Od.parse v.t with
   |error e2 =>
    rw[hp] at g2
    obtain ⟨a,c,g3,_⟩:=g2
    exact ⟨_,g3⟩
   |ok l =>
    rw[hp] at g2
    obtain ⟨a,c,g3,g4⟩:=g2
    exact ⟨a,c,g3,g4⟩)
 clear h hst hl hA hR
 go_enter Tryz.func63,Tryz.ntmps63
 go_wp2_with (go_at_call 101;refine HW.out.mono ?_;rintro e w3 ⟨rfl,k1,k2⟩;have K1:=hid k1;have K2:=hid k2;clear k1 k2)
 go_returns
 exact ⟨rfl,K1.out,K2.out⟩
theorem textClo (A:Nat→Addr) (W0:World) (hA:BodiesOf A W0) (bx:Nat) (S:ByteArray) (m:Int) (hm:De.I64 m) (w:World) (hw:W0.grownBy w none) (hx:w.cell? ⟨bx,0,none⟩=some (.int .i64 m)) (hz:S.size≤2000) :
  Calls Tryz.prog 103 #[.string S,.pointer (some ⟨bx,0,none⟩)] w fun e w'=>BodyPost A w w' (if Pt.asked (strL S) m=0 then .ok (strL S) else .error (Pt.asked (strL S) m)) e:=by
 obtain ⟨R,hR⟩:∃ R:Except Nat (List Nat),R=if Pt.asked (strL S) m=0 then .ok (strL S) else .error (Pt.asked (strL S) m):=⟨_,rfl⟩
 rw[←hR]
 have HP:Hid (Calls Tryz.prog 104 #[.string S,.int .i64 m] w fun e w'=>∃ x y,e=.returned (.tuple #[x,y])∧BodyPost A w w' R (.returned (.tuple #[x,y]))):=hid ((hA.texts S m w hz hm hw).mono (fun e w' hp=>by
  rw[hR]
  obtain ⟨g1,g2⟩:=hp
  by_cases ha:Pt.asked (strL S) m=0
  ·rw[if_pos ha] at g2
   obtain ⟨a,c,g3,g4⟩:=g2
   refine ⟨_,_,g3,g1,?_⟩
   rw[if_pos ha]
   have hz2:S.size=(strL S).length:=(strL_len S).symm
   rw[hz2] at g3 g4 ⊢
   exact ⟨a,c,rfl,g4,whole_pos g4 (asked_pos ha)⟩
  ·rw[if_neg ha] at g2
   obtain ⟨a,c,g3⟩:=g2
   refine ⟨_,_,g3,g1,?_⟩
   rw[if_neg ha]
   exact ⟨_,rfl⟩))
 clear hA hm hw hR
 go_enter Tryz.func103,Tryz.ntmps103
 go_wp2_with (go_at_call 104;refine HP.out.mono ?_;rintro e w2 ⟨x,y,rfl,hp⟩;have HQ:=hid hp;clear hp)
 go_ret2
 exact HQ.out
theorem prText_any {A:Nat→Addr} {W0 w:World} {F:Nat→Prop} {b:Nat} {s:De.St} (h:PrW A W0 F b s w) (hA:BodiesOf A W0) (hl:Lim 2000 s) (v:De.Val) (hk:v.kind=7) (hn:De.I64 v.n) (S:ByteArray) (hS:strL S=v.t) (hz:S.size≤2000) :
  Calls Tryz.prog 64 #[.pointer (some ⟨b,0,none⟩),.string S,.int .i64 v.n] w fun e w'=>PrPost A W0 F b w w' (De.step s v) e:=by
 have hmf:=mkFn
 have HX:=hid h
 obtain ⟨R,hR⟩:∃ R:Except Nat (List Nat),R=if Pt.asked (strL S) v.n=0 then .ok (strL S) else .error (Pt.asked (strL S) v.n):=⟨_,rfl⟩
 have hst:De.step s v=if s.e=0 then putR s 12 R else s:=step_putR (by omega) (by omega) (by omega) (by
  rw[hR,hS];unfold De.body;rw[if_neg (by omega),if_neg (by omega),if_neg (by omega),if_neg (by omega),if_pos hk];split <;> rfl)
 have HW:Hid (∀ W,W=w.alloc (.cells #[.int .i64 v.n] 3)→Calls Tryz.prog 101 #[.pointer (some ⟨b,0,none⟩),.int .i64 12,.string S,.func (.func 103) #[] #[.pointer (some ⟨w.heap.size,0,none⟩)]] W fun e w'=>PrPost A W0 F b w w' (De.step s v) e):=hid (fun W hW=>by
  rw[hst]
  subst hW
  have hga:=World.grownBy_alloc w (.cells #[.int .i64 v.n] 3) none
  refine (prWrite_str (HX.out.grow hga) hA.errs hl 12 (by decide) _ 103 #[.pointer (some ⟨w.heap.size,0,none⟩)] R ?_ (enters_any Tryz.func103 (by kernel_rfl) rfl) (fun W2 hg2=>?_)).mono (fun e w' hp=>HX.out.after hga hp)
  ·rw[hR]
   split
   ·exact ⟨by rw[strL_len];omega,strL_lt S⟩
   ·assumption
  ·rw[hR]
   exact textClo A W0 hA w.heap.size S v.n hn W2 (grown_trans HX.out.base (grown_trans hga hg2)) ((World.cell?_of_block (hg2.block w.heap.size (by rw[alloc_size];omega) (by simp))).trans (cell_blk (alloc_at _ _) 0 rfl)) hz)
 clear h hst hl hA hR hn
 obtain ⟨m,hm⟩:∃ m,m=v.n:=⟨_,rfl⟩
 rw[←hm] at HW ⊢
 clear hm
 go_enter Tryz.func64,Tryz.ntmps64
 go_wp2_with (go_at_call 101;refine (HW.out _ rfl).mono ?_;rintro e w3 ⟨rfl,k1,k2⟩;have K1:=hid k1;have K2:=hid k2;clear k1 k2)
 go_returns
 exact ⟨rfl,K1.out,K2.out⟩
end Go.Proofs.YtijkaknggdaajaaGreatDoor
