import Derived.Test.YtndkifkhdollgaaGreatDoorZr05
import Derived.Test.YtndkifkhdollgaaGreatDoorZr06
import Derived.Test.YtndkifkhdollgaaGreatDoorZr08
import Derived.Test.YtndkifkhdollgaaGreatDoorZr09
import Derived.Test.YtndkifkhdollgaaGreatDoorZr16
import Derived.Test.YtndkifkhdollgaaGreatDoorZr25
import Derived.Test.YtndkifkhdollgaaGreatDoorZr27
import Derived.Test.YtndkifkhdollgaaGreatDoorZr36
import Derived.Lib.SmallJoins
set_option linter.unusedVariables false
set_option linter.unusedSimpArgs false
set_option maxRecDepth 100000
set_option maxHeartbeats 1000000
namespace Go.Proofs.YtndkifkhdollgaaGreatDoor
open Lib (hid)
open Go.ChangeShapes Go.WideShapes Go.ChangeAt Go.RowKit
section
variable {H:Type} {P:Program} {enc:TypeId×Value→H} {w:World} {base:Nat} {spare:Nat→Bool} {held:Bool}
end
theorem cAsk:Tryz.prog.cellsOf 31=4:=by kernel_rfl
def ValsAt (W:World) (sb so:Nat) (xs:List De.Val):Prop:=∀ i,i<xs.length→∃ v S,W.cell? ⟨sb,so+i*5,none⟩=some (.int .i64 (xs.getD i De.none0).kind)∧W.cell? ⟨sb,so+i*5+1,none⟩=some (.int .i64 (xs.getD i De.none0).n)∧W.cell? ⟨sb,so+i*5+2,none⟩=some (.bool (xs.getD i De.none0).is) ∧
 W.cell? ⟨sb,so+i*5+3,none⟩=some v∧W.cell? ⟨sb,so+i*5+4,none⟩=some (.string S)∧Bytes W v (xs.getD i De.none0).b∧Whole0 v∧strL S=(xs.getD i De.none0).t∧De.I64 (xs.getD i De.none0).kind∧De.I64 (xs.getD i De.none0).n
theorem ValsAt.grown {W W':World} {sb so:Nat} {xs:List De.Val} (h:ValsAt W sb so xs) (hg:W.grownBy W' none) (hb:0<xs.length→sb<W.heap.size):ValsAt W' sb so xs:=fun i hi=>by
 obtain ⟨v,S,h0,h1,h2,h3,h4,h5,h6⟩:=h i hi
 have e:∀ o,W'.cell? ⟨sb,o,none⟩=W.cell? ⟨sb,o,none⟩:=fun o=>World.cell?_of_block (hg.block sb (hb (by omega)) (by simp))
 exact ⟨v,S,by rw[e];exact h0,by rw[e];exact h1,by rw[e];exact h2,by rw[e];exact h3,by rw[e];exact h4,h5.grown hg,h6⟩
section
variable {H:Type} {P:Program} {enc:TypeId×Value→H} {w:World} {base:Nat} {spare:Nat→Bool} {held:Bool}
theorem trod_struct4 {t:TypeId} {f0 f1 f2 f3:Field} {fuel:Nat} {cs:List Value} {x:DataW H×List MemPlace} (ht:P.underlying t=some (.struct #[f0,f1,f2,f3])) (h:DataW.trod enc P w base spare held fuel t cs=some x) :
  ∃ y0 y1 y2 y3 n,cs.length=P.cellsOf t∧DataW.trod enc P w base spare held n f0.type ((cs.drop f0.offset).take (P.cellsOf f0.type))=some y0 ∧
   DataW.trod enc P w base spare held n f1.type ((cs.drop f1.offset).take (P.cellsOf f1.type))=some y1∧DataW.trod enc P w base spare held n f2.type ((cs.drop f2.offset).take (P.cellsOf f2.type))=some y2 ∧
   DataW.trod enc P w base spare held n f3.type ((cs.drop f3.offset).take (P.cellsOf f3.type))=some y3:=by
 obtain ⟨xs,n,_,rfl,hl,hlen,hf⟩:=DataW.trod_struct ht h
 match xs,hlen with
 |[y0,y1,y2,y3],_=>exact ⟨y0,y1,y2,y3,n,hl,by simpa using hf 0 f0 rfl,by simpa using hf 1 f1 rfl,by simpa using hf 2 f2 rfl,by simpa using hf 3 f3 rfl⟩
end
structure AskL where
 kind:Int
 tag:Int
 least:Int
 most:Int
def ask0:AskL:=⟨0,0,0,0⟩
def AsksAt (W:World) (sb so:Nat) (xs:List AskL):Prop:=∀ i,i<xs.length→W.cell? ⟨sb,so+i*4,none⟩=some (.int .i64 (xs.getD i ask0).kind)∧W.cell? ⟨sb,so+i*4+1,none⟩=some (.int .i64 (xs.getD i ask0).tag)∧W.cell? ⟨sb,so+i*4+2,none⟩=some (.int .i64 (xs.getD i ask0).least) ∧
 W.cell? ⟨sb,so+i*4+3,none⟩=some (.int .i64 (xs.getD i ask0).most)∧De.I64 (xs.getD i ask0).most
theorem AsksAt.grown {W W':World} {sb so:Nat} {xs:List AskL} (h:AsksAt W sb so xs) (hg:W.grownBy W' none) (hb:0<xs.length→sb<W.heap.size):AsksAt W' sb so xs:=fun i hi=>by
 obtain ⟨h0,h1,h2,h3,h4⟩:=h i hi
 have e:∀ o,W'.cell? ⟨sb,o,none⟩=W.cell? ⟨sb,o,none⟩:=fun o=>World.cell?_of_block (hg.block sb (hb (by omega)) (by simp))
 exact ⟨by rw[e];exact h0,by rw[e];exact h1,by rw[e];exact h2,by rw[e];exact h3,h4⟩
theorem asks_in {H:Type} {enc:TypeId×Value→H} {W:World} {base:Nat} {sp:Nat→Bool} {held:Bool} {fuel:Nat} {cs:List Value} {y:DataW H×List MemPlace} (hf:DataW.trod enc Tryz.prog W base sp held fuel 23 cs=some y) :
  ∃ (a:Option Addr) (sb so n c:Nat) (xs:List AskL),cs=[.slice a n c]∧xs.length=n∧(0<n→a=some ⟨sb,so,none⟩∧sb<W.heap.size)∧AsksAt W sb so xs∧n≤maxLen∧n≤c:=by
 rcases DataW.trod_slice Tryz.underlying23 hf with ⟨rfl,_⟩|⟨a,len,cap,elems,rest,m,_,rfl,_,_,hl,hm,hel,hall,_,_⟩
 ·exact ⟨none,0,0,0,0,[],rfl,rfl,fun h=>absurd h (Nat.lt_irrefl _),fun i hi=>absurd hi (Nat.not_lt_zero _),by unfold maxLen;simp,Nat.le_refl _⟩
 ·have each:∀ i,i<len→∃ x:AskL,W.cell? (a.add (i*4))=some (.int .i64 x.kind)∧W.cell? ((a.add (i*4)).add 1)=some (.int .i64 x.tag)∧W.cell? ((a.add (i*4)).add 2)=some (.int .i64 x.least)∧W.cell? ((a.add (i*4)).add 3)=some (.int .i64 x.most)∧De.I64 x.most:=fun i hi=>by
   have h1:=hall i hi
   rw[List.getElem?_eq_getElem (by omega),cAsk,Option.bind_eq_some_iff] at h1
   obtain ⟨cs',hc',hy'⟩:=h1
   obtain ⟨y0,y1,y2,y3,k,hlen,g0,g1,g2,g3⟩:=trod_struct4 Tryz.underlying31 hy'
   obtain ⟨_,hlen2,hcs⟩:=World.cells?_some hc'
   match cs',hlen2 with
   |[c0,c1,c2,c3],_ =>
    simp only[cInt,List.drop_zero,List.drop_succ_cons,List.take_succ_cons,List.take_zero] at g0 g1 g2 g3
    obtain ⟨n0,e0,_,b0⟩:=DataW.trod_int Tryz.underlying3 g0
    obtain ⟨n1,e1,_,b1⟩:=DataW.trod_int Tryz.underlying3 g1
    obtain ⟨n2,e2,_,b2⟩:=DataW.trod_int Tryz.underlying3 g2
    obtain ⟨n3,e3,_,b3⟩:=DataW.trod_int Tryz.underlying3 g3
    obtain rfl:=(List.cons.inj e0).1
    obtain rfl:=(List.cons.inj e1).1
    obtain rfl:=(List.cons.inj e2).1
    obtain rfl:=(List.cons.inj e3).1
    have q0:=hcs 0 (by omega)
    have q1:=hcs 1 (by omega)
    have q2:=hcs 2 (by omega)
    have q3:=hcs 3 (by omega)
    have ha0:(a.add (i*4)).add 0=a.add (i*4):=by unfold Addr.add;split <;> simp_all
    rw[ha0] at q0
    have i3:=bounds_i64 b3
    exact ⟨⟨n0,n1,n2,n3⟩,by simpa using q0,by simpa using q1,by simpa using q2,by simpa using q3,⟨by show -9223372036854775808≤n3;omega,by show n3≤9223372036854775807;omega⟩⟩
  rcases Nat.eq_zero_or_pos len with h0|h0
  ·subst h0
   exact ⟨some a,0,0,0,cap,[],rfl,rfl,fun h=>absurd h (Nat.lt_irrefl _),fun i hi=>absurd hi (Nat.not_lt_zero _),Nat.zero_le _,Nat.zero_le _⟩
  ·obtain ⟨b,off,spot⟩:=a
   obtain ⟨x0,hc0,_⟩:=each 0 h0
   have hspot:spot=none:=by simpa [Addr.add] using World.cell?_spot hc0
   subst hspot
   have hg:∀ i:Nat,∃ p:AskL,i<len→W.cell? ⟨b,off+i*4,none⟩=some (.int .i64 p.kind)∧W.cell? ⟨b,off+i*4+1,none⟩=some (.int .i64 p.tag)∧W.cell? ⟨b,off+i*4+2,none⟩=some (.int .i64 p.least)∧W.cell? ⟨b,off+i*4+3,none⟩=some (.int .i64 p.most)∧De.I64 p.most:=fun i=>by
    by_cases hi:i<len
    ·obtain ⟨x,h1,h2,h3,h4,h5⟩:=each i hi
     simp only[addr_addO] at h1 h2 h3 h4
     exact ⟨x,fun _=>⟨h1,h2,h3,h4,h5⟩⟩
    ·exact ⟨ask0,fun h=>absurd h hi⟩
   refine ⟨_,b,off,len,cap,(List.range len).map fun i=>Classical.choose (hg i),rfl,by simp,fun _=>⟨rfl,?_⟩,fun i hi=>?_,Nat.le_trans hl hm,hl⟩
   ·have:=cell_lt hc0
    simpa [Addr.add] using this
   ·have hi':i<len:=by simpa using hi
    have h1:=Classical.choose_spec (hg i) hi'
    have e:((List.range len).map fun i=>Classical.choose (hg i)).getD i ask0=Classical.choose (hg i):=by simp[List.getD_eq_getElem?_getD,hi']
    rw[e]
    exact h1
end Go.Proofs.YtndkifkhdollgaaGreatDoor
namespace Go.Proofs.YtndkifkhdollgaaGreatDoor
open Lib (hid)
open Go.RowKit
theorem lt_getD {l:List Nat} (h:∀ x∈l,x<256) (i:Nat):l.getD i 0<256:=by
 rw[List.getD_eq_getElem?_getD]
 cases e:l[i]? with
 |none=>exact Nat.zero_lt_succ _
 |some x=>exact h x (List.mem_of_getElem? e)
theorem named_any (u:Nat) (v:Value) (l:List Nat) (w:World) (hu:u<256) (hB:Bytes w v l) (hl:l.length≤1000) :
  Calls Tryz.prog 166 #[.int .u8 u,v] w fun e w'=>e=.returned (.bool (Pt.named u l))∧w'=w:=by
 have HB:=hid hB
 obtain ⟨hlt,a,sb,so,c,rfl,hc,ha,hcell⟩:=hB
 rw[Pt.named]
 by_cases h0:l.length=0
 ·rw[if_pos h0,h0]
  have d0:((u:Int)==0)=decide (u=0):=by rw[Bool.eq_iff_iff,beq_iff_eq,decide_eq_true_iff];omega
  clear hlt ha hcell hc
  go_enter Tryz.func166,Tryz.ntmps166
  go_wp2
  go_ret
  exact ⟨rfl,rfl⟩
 ·rw[if_neg h0]
  obtain ⟨n,hn⟩:∃ n,l.length=n+1:=⟨l.length-1,by omega⟩
  obtain ⟨rfl,hsb⟩:=ha (by omega)
  have hcl:=hcell n (by omega)
  have hx:l.getD n 0<256:=lt_getD hlt n
  rw[hn,Nat.add_sub_cancel]
  generalize l.getD n 0=x at *
  have hz:=ntz_any x hx w
  have dz:(((Lib.trailingZeros8 x:Nat):Int)==(u:Int))=decide (Lib.trailingZeros8 x=u):=by rw[Bool.eq_iff_iff,beq_iff_eq,decide_eq_true_iff];omega
  clear hlt ha hcell HB h0
  by_cases h8:8≤u∨2<n+1
  ·rw[if_pos h8]
   by_cases h8':8≤u
   ·go_enter Tryz.func166,Tryz.ntmps166
    go_wp2
    go_ret
    exact ⟨rfl,rfl⟩
   ·have h2:(2:Int)<(n:Int)+1:=by omega
    go_enter Tryz.func166,Tryz.ntmps166
    go_wp2
    go_ret
    exact ⟨rfl,rfl⟩
  ·rw[if_neg h8]
   have h8':¬ (8:Int)≤(u:Int):=by omega
   have h2:¬ (2:Int)<(n:Int)+1:=by omega
   go_enter Tryz.func166,Tryz.ntmps166
   go_wp2_with (go_at_call 199;refine hz.mono ?_;rintro e w' ⟨rfl,rfl⟩)
   go_ret
   exact ⟨rfl,rfl⟩
theorem u16_pair (x y:Nat) (hx:x<256) (hy:y<256):bits .or .u16 ((x:Int)*256) (y:Int)=((256*x+y:Nat):Int):=by
 have e2:((x:Int)*256)=((256*x:Nat):Int):=by omega
 rw[e2,u16_or_nat _ _ (by omega) (by omega),nat_join8 _ _ (by omega) hy]
theorem named_len {u:Nat} {its:List Nat} (h:Pt.named u its=true):its.length≤2:=by
 unfold Pt.named at h
 split at h
 ·omega
 ·split at h
  ·cases h
  ·omega
theorem two_cells (its:List Nat) (h:its.length≤2):bytesV (its++[0,0].drop its.length)=#[.int .u8 (its.getD 0 0:Nat),.int .u8 (its.getD 1 0:Nat)]:=by
 match its,h with
 |[],_=>rfl
 |[x],_=>rfl
 |[x,y],_=>rfl
theorem mask_any (A:Nat→Addr) (w:World) (hE:AllErrs w A):TxMask A w:=by
 intro v l W hg hB hl
 have hEW:=hE.grown hg
 have HB:=hid hB
 obtain ⟨hlt,a,sb,so,c,rfl,hc,ha,hcell⟩:=hB
 match l,HB,hl,hlt,hc,ha,hcell with
 |[],HB,_,_,_,_,_ =>
  have he:=err_short hEW
  go_enter Tryz.func123,Tryz.ntmps123
  go_wp2
  go_quiet (fail)
  go_wp2
  go_ret2
  exact ⟨grown_drewN (grown_refl _ _) _,rfl⟩
 |u :: its,HB,hl,hlt,hc,ha,hcell =>
  obtain ⟨rfl,hsb⟩:=ha (by simp)
  have hu:u<256:=hlt u (by simp)
  have h8:∀ x∈its,x<256:=fun x hx=>hlt x (by simp[hx])
  rw[Pt.mask_named u its h8]
  have h0:=hcell 0 (by simp)
  rw[List.getD_cons_zero,Nat.add_zero] at h0
  have hN:=named_any u (.slice (subA (some ⟨sb,so,none⟩) 1 c) its.length (c-1)) its
  obtain ⟨n,hn⟩:∃ n,n=its.length:=⟨_,rfl⟩
  have hF:∀ W2,Bytes W2 (.slice (some ⟨sb,so,none⟩) (u :: its).length c) (u :: its)→Bytes W2 (.slice (subA (some ⟨sb,so,none⟩) 1 c) its.length (c-1)) its:=fun W2 h=>by
   have:=h.from 1 (by simp)
   simpa using this
  rw[List.length_cons] at hc hl HB hF ⊢
  rw[←hn] at hN hc hl HB hF ⊢
  have HN:Hid (∀ W2,Bytes W2 (.slice (some ⟨sb,so,none⟩) (n+1) c) (u :: its)→Calls Tryz.prog 166 #[.int .u8 u,.slice (subA (some ⟨sb,so,none⟩) 1 c) n (c-1)] W2 fun e w'=>e=.returned (.bool (Pt.named u its))∧w'=W2):=hid (fun W2 h=>hN W2 hu (hF W2 h) (by omega))
  have hf:=err_form hEW
  have hr:=err_range hEW
  clear hN hF hlt hcell hE hEW hg
  have HN':=hid hn
  clear hn
  by_cases hnm:Pt.named u its=true
  ·rw[if_pos hnm]
   have h2:=named_len hnm
   rw[hnm] at HN
   have hx:=lt_getD h8 0
   have hy:=lt_getD h8 1
   have htwo:=two_cells its h2
   have hT:Pt.twoOf its=Pt.rev8 (its.getD 0 0)+256*Pt.rev8 (its.getD 1 0):=rfl
   have rx:=Pt.rev8_lt (its.getD 0 0)
   have ry:=Pt.rev8_lt (its.getD 1 0)
   rw[hT]
   generalize its.getD 0 0=x at *
   generalize its.getD 1 0=y at *
   have hrv:=fun W=>rev16_any (256*x+y) (by omega) W
   rw[←u16_pair x y hx hy] at hrv
   rw[show (256*x+y)/256=x by omega,show (256*x+y)%256=y by omega] at hrv
   obtain ⟨m,hm⟩:∃ m,m=Pt.rev8 x+256*Pt.rev8 y:=⟨_,rfl⟩
   rw[←hm] at hrv ⊢
   have hm2:m<65536:=by omega
   obtain ⟨R,hR⟩:∃ R,R=(if 32767<m then Except.error 1 else Except.ok m:Except Nat Nat):=⟨_,rfl⟩
   rw[←hR]
   have HR:=hid hR
   clear hR
   have HT:=hid htwo
   have H2:Hid (its.length≤2):=hid h2
   clear htwo hT rx ry hm hnm h2
   have HBf:Hid (∀ W2,Bytes W2 (.slice (some ⟨sb,so,none⟩) (n+1) c) (u :: its)→Bytes W2 (.slice (subA (some ⟨sb,so,none⟩) 1 c) n (c-1)) its):=hid (fun W2 h=>by
    have:=h.from 1 (by omega)
    simpa using this)
   go_enter Tryz.func123,Tryz.ntmps123
   go_wp2
   go_quiet ((go_at_call 166;exact Calls.quiet_of_same (HN.out _ (HB.out.grown (grown_drewN (grown_refl _ _) _)))))
   go_wp2
   refine wp_region_quiet_tail (fun w'=>∃ n,w'=((W.drewN nq).alloc (.cells #[.int .u8 0,.int .u8 0] 220 (0,0))).drewN n) 3 (by kernel_rfl) (by kernel_rfl) ⟨1,rfl⟩ ?_
   simp only[List.take_succ_cons,List.take_zero,List.drop_succ_cons,List.drop_zero]
   repeat (first|go_big_quiet_step (fail)|quiet_step (fail))
   refine wpQuiet_nil ?_
   rintro _ ⟨nq2,rfl⟩
   have hgW:W.grownBy (((W.drewN nq).alloc (.cells #[.int .u8 0,.int .u8 0] 220 (0,0))).drewN nq2) none:=grown_drewN (grown_alloc (grown_drewN (grown_refl _ _) _) _) _
   have hB3:=(HBf.out _ HB.out).grown hgW
   refine wpList_copyB' (by rfl) (.tmp 18) (.tmp 20) 22 22 (by rfl) Tryz.underlying22 (by kernel_rfl) (b:=(W.drewN nq).heap.size) (N:=2) (Z:=[0,0]) (l:=its) (T:=220) (by rfl) (by rfl) (alloc_at (W.drewN nq) _) rfl hB3 H2.out ?_
   intro w3 h3 hg3
   rw[HT.out] at h3
   have c0:w3.cell? ⟨(W.drewN nq).heap.size,0,none⟩=some (.int .u8 (x:Nat)):=cell_blk h3 0 rfl
   have c1:w3.cell? ⟨(W.drewN nq).heap.size,1,none⟩=some (.int .u8 (y:Nat)):=cell_blk h3 1 rfl
   have hg3':W.grownBy w3 none:=grown_forget hgW (Nat.le_refl _) hg3
   have hr3:=(hr:W.cell? ⟨0,0,none⟩=some (errV A 1))
   rw[←World.cell?_of_block (hg3'.block _ (World.block_lt_of_cell? W _ hr) (by simp))] at hr3
   have HG3:=hid hg3'
   have hh:(W.drewN nq).heap.size=W.heap.size:=rfl
   rw[hh] at c0 c1
   clear hgW hB3 h3 hg3 hg3' hr h0 hf
   by_cases hq:32767<m
   ·have HRe:=HR.out
    rw[if_pos hq] at HRe
    subst HRe
    have hqz:(32767:Int)<(m:Int):=by omega
    go_wp2_with (go_at_call 167;with_reducible refine (hrv _).mono ?_;rintro e w1 ⟨rfl,q,rfl⟩)
    go_quiet (fail)
    go_wp2
    go_ret2
    exact ⟨grown_drewN (grown_drewN HG3.out _) _,rfl⟩
   ·have HRe:=HR.out
    rw[if_neg hq] at HRe
    subst HRe
    have hqz:¬ (32767:Int)<(m:Int):=by omega
    go_wp2_with (go_at_call 167;with_reducible refine (hrv _).mono ?_;rintro e w1 ⟨rfl,q,rfl⟩)
    go_ret2
    exact ⟨grown_drewN HG3.out _,rfl⟩
  ·rw[if_neg hnm]
   have hnm':Pt.named u its=false:=by simpa using hnm
   rw[hnm'] at HN
   clear hnm hnm'
   go_enter Tryz.func123,Tryz.ntmps123
   go_wp2
   go_quiet ((go_at_call 166;exact Calls.quiet_of_same (HN.out _ (HB.out.grown (grown_drewN (grown_refl _ _) _)))))
   go_wp2
   go_quiet (fail)
   go_wp2
   go_ret2
   exact ⟨grown_drewN (grown_drewN (grown_refl _ _) _) _,rfl⟩
end Go.Proofs.YtndkifkhdollgaaGreatDoor
