import Derived.Test.YtndkifkhdollgaaGreatDoorZs05
import Derived.Test.YtndkifkhdollgaaGreatDoorZs15
import Derived.Test.YtndkifkhdollgaaGreatDoorZs16
import Derived.Test.YtndkifkhdollgaaGreatDoorZs17
import Derived.Test.YtndkifkhdollgaaGreatDoorZs19
import Derived.Test.YtndkifkhdollgaaGreatDoorZs21
import Derived.Test.YtndkifkhdollgaaGreatDoorZs28
import Derived.Test.YtndkifkhdollgaaGreatDoorZs30
import Derived.Test.YtndkifkhdollgaaGreatDoorZs32
import Derived.Test.YtndkifkhdollgaaGreatDoorZs33
import Derived.Test.YtndkifkhdollgaaGreatDoorZs34
set_option linter.unusedVariables false
set_option linter.unusedSimpArgs false
set_option maxRecDepth 100000
set_option maxHeartbeats 1000000
namespace Go.Proofs.YtndkifkhdollgaaGreatDoor
open Lib (hid)
def vI (n:Int):De.Val:={ De.none0 with kind:=3,n:=n }
def vO (t:Int):De.Val:={ De.none0 with kind:=1,n:=t }
def vC:De.Val:={ De.none0 with kind:=2 }
def stI (tag:Int) (xs:List Int) (j:Nat):De.St:=((xs.take j).map vI).foldl De.step (De.step De.St.zero (vO tag))
theorem stI_zero (tag:Int) (xs:List Int):stI tag xs 0=De.step De.St.zero (vO tag):=by unfold stI;simp
theorem stI_succ {tag:Int} {xs:List Int} {j:Nat} (h:j<xs.length):stI tag xs (j+1)=De.step (stI tag xs j) (vI (xs.getD j 0)):=by
 unfold stI
 rw[List.take_succ_eq_append_getElem h,List.map_append,List.foldl_append,List.getD_eq_getElem?_getD,List.getElem?_eq_getElem h]
 rfl
theorem stI_lim (tag:Int) (xs:List Int):∀ (j:Nat),j≤xs.length→Lim (j+1) (stI tag xs j)
 |0,_=>by rw[stI_zero];exact Lim.zero.step
 |j+1,h=>by rw[stI_succ (by omega)];exact (stI_lim tag xs j (by omega)).step
theorem stI_good (tag:Int) (xs:List Int):∀ (j:Nat),j≤xs.length→De.Good (stI tag xs j)
 |0,_=>by rw[stI_zero];exact De.good_step De.good_zero ⟨by simp[vO,De.none0],by simp[vO,De.none0]⟩
 |j+1,h=>by rw[stI_succ (by omega)];exact De.good_step (stI_good tag xs j (by omega)) ⟨by simp[vI,De.none0],by simp[vI,De.none0]⟩
theorem step_eid {s:De.St} (h:s.e≠0) (v:De.Val):De.step s v=s:=by unfold De.step;rw[if_pos h]
theorem stI_bad {tag:Int} (xs:List Int) (hm:Tl.made tag=false):∀ (j:Nat),j≤xs.length→(stI tag xs j).e=5
 |0,_=>by
  rw[stI_zero]
  show (De.opn De.St.zero tag).e=5
  unfold De.opn;rw[if_pos hm]
 |j+1,h=>by
  have ih:=stI_bad xs hm j (by omega)
  rw[stI_succ (by omega),step_eid (by rw[ih];decide)];exact ih
theorem done_bad {tag:Int} {xs:List Int} (hm:Tl.made tag=false):De.done (De.step (stI tag xs xs.length) vC)=.error 5:=by
 have h:=stI_bad xs hm xs.length (Nat.le_refl _)
 rw[step_eid (by rw[h];decide)]
 unfold De.done
 rw[if_pos (by rw[h];decide),h]
theorem fitI {n:Int} (h:De.I64 n):De.Fit (vI n)∧De.has (vI n)=true∧(De.elemOf (vI n)).length≤14:=by
 refine ⟨⟨⟨by show (3:Int)≤3;decide,by show (3:Int)≤10;decide⟩,h,by simp[vI,De.none0],by simp[vI,De.none0]⟩,?_,?_⟩
 ·unfold De.has De.body vI;simp
 ·have e:De.elemOf (vI n)=Tl.elem 2 (Wh.body n):=by unfold De.elemOf De.body vI;simp
  rw[e,Tl.elem_len]
  have:=Wh.body_len n
  have:=Tl.more_le (Wh.body n).length
  omega
theorem flat_le:∀ (l:List (List Nat)),(∀ x∈l,x.length≤14)→l.flatten.length≤14*l.length
 |[],_=>by simp
 |x :: r,h=>by
  have:=flat_le r (fun y hy=>h y (by simp[hy]))
  have:=h x (by simp)
  rw[List.flatten_cons,List.length_append,List.length_cons];omega
theorem row_done {tag:Int} {xs:List Int} (hm:Tl.made tag=true) (h:∀ n∈xs,De.I64 n) (hl:xs.length≤60):∃ L,De.done (De.step (stI tag xs xs.length) vC)=.ok L∧L.length≤1000:=by
 have ht:=Tl.made_nat _ hm
 have hfit:∀ v∈xs.map vI,De.Fit v∧De.has v=true:=fun v hv=>by
  obtain ⟨n,hn,rfl⟩:=List.mem_map.1 hv
  exact ⟨(fitI (h n hn)).1,(fitI (h n hn)).2.1⟩
 have hop:De.step De.St.zero (vO tag)=⟨0,[(tag.toNat,[])],[]⟩:=by
  show De.opn De.St.zero tag=_
  unfold De.opn
  rw[if_neg (by rw[hm];decide),if_neg (by simp[De.St.zero])]
  rfl
 have hst:stI tag xs xs.length=⟨0,[(tag.toNat,(xs.map vI).map De.elemOf)],[]⟩:=by
  unfold stI
  rw[List.take_length,hop,De.steps_open _ [] hfit,List.nil_append]
 have h14:∀ x∈(xs.map vI).map De.elemOf,x.length≤14:=fun x hx=>by
  obtain ⟨v,hv,rfl⟩:=List.mem_map.1 hx
  obtain ⟨n,hn,rfl⟩:=List.mem_map.1 hv
  exact (fitI (h n hn)).2.2
 have hlen:=flat_le _ h14
 rw[List.length_map,List.length_map] at hlen
 obtain ⟨B,hB⟩:∃ B,B=(if tag.toNat=49 then Pt.sort ((xs.map vI).map De.elemOf) else (xs.map vI).map De.elemOf).flatten:=⟨_,rfl⟩
 have hBl:B.length≤840:=by
  rw[hB]
  split
  ·rw[(Pt.sort_perm _).flatten.length_eq];omega
  ·omega
 have hc:De.step (stI tag xs xs.length) vC=⟨0,[],[Tl.elem tag.toNat B]⟩:=by
  rw[hst]
  show De.put ⟨0,[],[]⟩ tag.toNat _=_
  rw[←hB,De.put,if_neg (by omega)]
  rfl
 refine ⟨Tl.elem tag.toNat B,?_,?_⟩
 ·rw[hc]
  unfold De.done
  have:=Tl.elem_len tag.toNat B
  have:=Tl.more_le B.length
  rw[if_neg (fun h=>h rfl),if_neg (fun h=>h rfl),List.flatten_cons,List.flatten_nil,List.append_nil,if_neg (by omega)]
 ·rw[Tl.elem_len]
  have:=Tl.more_le B.length
  omega
def getI (s:De.Rd):De.Rd×Int:=((De.ask s 3 0 0 1000).1,(De.ask s 3 0 0 1000).2.n)
def szR (s:De.Rd):Nat:=if s.e=0 then s.top.length else 0
structure LeftI (j:Nat) (s:De.Rd):Prop where
 sz:j+szR s≤1000
 top:s.top.length≤1000
 lev:s.left.length≤17
 e28:s.e≤28
theorem first_len {l:List Nat} {t i n:Nat} (h:Tl.first l=.ok (t,i,n)):2≤l.length:=by
 match l,h with
 |[],h=>exact absurd h (by simp[Tl.first])
 |[x],h =>
  rw[Tl.first] at h
  split at h
  ·cases h
  ·exact absurd h (by simp[Tl.rdLen])
 |x :: y :: r,_=>simp
theorem next_none {s:De.Rd} {tag:Int} (he:s.e=0) (h:(De.next s tag).2=none):(De.next s tag).1.e≠0:=by
 unfold De.next at h ⊢
 rw[if_neg (by omega)] at h ⊢
 cases hf:Tl.first s.top with
 |error k=>exact De.first_err hf
 |ok p =>
  obtain ⟨t,i,n⟩:=p
  rw[hf] at h
  simp only at h ⊢
  by_cases ht:tag≠0∧(t:Int)≠tag
  ·rw[if_pos ht];exact (by decide:(5:Nat)≠0)
  ·rw[if_neg ht] at h;cases h
theorem next_less {s:De.Rd} {tag:Int}:(De.next s tag).1.left=s.left∧(De.next s tag).1.top.length≤s.top.length∧∀ x y,(De.next s tag).2=some (x,y)→(De.next s tag).1.e=s.e∧(De.next s tag).1.top.length+2≤s.top.length∧x.length≤s.top.length:=by
 unfold De.next
 by_cases he:s.e≠0
 ·rw[if_pos he];exact ⟨rfl,Nat.le_refl _,fun x y e=>by cases e⟩
 ·rw[if_neg he]
  cases hf:Tl.first s.top with
  |error k=>exact ⟨rfl,Nat.le_refl _,fun x y e=>by cases e⟩
  |ok p =>
   obtain ⟨t,i,n⟩:=p
   simp only
   by_cases ht:tag≠0∧(t:Int)≠tag
   ·rw[if_pos ht];exact ⟨rfl,Nat.le_refl _,fun x y e=>by cases e⟩
   ·rw[if_neg ht]
    have h2:=Tl.first_two hf
    have hne:s.top≠[]:=by
     intro h0;rw[h0] at hf;exact absurd hf (by simp[Tl.first])
    refine ⟨rfl,by rw[List.length_drop];omega,fun x y e=>⟨rfl,?_,?_⟩⟩
    ·have h3:=first_len hf
     rw[List.length_drop];omega
    ·obtain ⟨rfl,_⟩:=Prod.mk.inj (Option.some.inj e)
     rw[List.length_take,List.length_drop];omega
theorem getI_left {j:Nat} {s:De.Rd} (h:LeftI j s) (hm:De.more s=true):LeftI (j+1) (getI s).1:=by
 have he:=more_e0 hm
 have hsz:=h.sz
 unfold szR at hsz
 rw[if_pos he] at hsz
 have hpos:1≤s.top.length:=by
  unfold De.more at hm
  simp only[Bool.and_eq_true,decide_eq_true_eq] at hm
  exact List.length_pos_iff.2 hm.2
 obtain ⟨n1,n2,n3⟩:=next_less (s:=s) (tag:=De.tagOf 3)
 have key:(getI s).1.left=s.left∧(getI s).1.top.length≤s.top.length∧((getI s).1.e=0→(getI s).1.top.length+1≤s.top.length):=by
  show (De.ask s 3 0 0 1000).1.left=s.left∧(De.ask s 3 0 0 1000).1.top.length≤s.top.length∧((De.ask s 3 0 0 1000).1.e=0→(De.ask s 3 0 0 1000).1.top.length+1≤s.top.length)
  have hq:(De.ask s 3 0 0 1000).1=(match De.next s (De.tagOf 3) with
   |(s2,none)=>s2
   |(s2,some (b,_))=>match De.said 3 0 1000 b with
    |.error e=>{ s2 with e:=e }
    |.ok v=>s2):=by
   unfold De.ask
   rw[if_neg (by omega),if_neg (by decide),if_neg (by decide),if_neg (by decide)]
   cases De.next s (De.tagOf 3) with
   |mk s2 r =>
    cases r with
    |none=>rfl
    |some xy =>
     obtain ⟨x,y⟩:=xy
     show ((match De.said 3 0 1000 x with
      |.error e=>({ s2 with e:=e },De.none0)
      |.ok v=>(s2,v)):De.Rd×De.Val).1=(match De.said 3 0 1000 x with
      |.error e=>{ s2 with e:=e }
      |.ok v=>s2)
     cases De.said 3 0 1000 x <;> rfl
  rw[hq]
  have hnx:(De.next s (De.tagOf 3)).2=none→(De.next s (De.tagOf 3)).1.e≠0:=fun h0=>next_none he h0
  cases hn:De.next s (De.tagOf 3) with
  |mk s2 r =>
   rw[hn] at n1 n2 n3 hnx
   cases r with
   |none=>exact ⟨n1,n2,fun h0=>absurd h0 (hnx rfl)⟩
   |some xy =>
    obtain ⟨x,y⟩:=xy
    obtain ⟨m1,m2,_⟩:=n3 x y rfl
    have m2:s2.top.length+2≤s.top.length:=m2
    simp only
    cases De.said 3 0 1000 x with
    |error e=>exact ⟨n1,n2,fun _=>by show s2.top.length+1≤_;omega⟩
    |ok v=>exact ⟨n1,n2,fun _=>by show s2.top.length+1≤_;omega⟩
 obtain ⟨k1,k2,k3⟩:=key
 refine ⟨?_,by have:=h.top;omega,by rw[k1];exact h.lev,De.ask_e28 h.e28⟩
 unfold szR
 by_cases h0:(getI s).1.e=0
 ·rw[if_pos h0];have:=k3 h0;omega
 ·rw[if_neg h0];omega
theorem enter_left {L:List Nat} (hl:L.length≤1000) (tag:Int):LeftI 0 (De.enter (De.start L) tag).1:=by
 have h28:(De.enter (De.start L) tag).1.e≤28:=De.enter_e28 De.start_e28
 have htop:(De.start L).top=L:=rfl
 have hlf:(De.start L).left=[]:=rfl
 have key:(De.enter (De.start L) tag).1.top.length≤1000∧(De.enter (De.start L) tag).1.left.length≤17:=by
  unfold De.enter
  by_cases he:(De.start L).e≠0
  ·rw[if_pos he];exact ⟨by rw[htop];exact hl,by rw[hlf];simp⟩
  rw[if_neg he]
  by_cases hq:(De.start L).top≠[]∧Tl.made tag=false
  ·rw[if_pos hq];exact ⟨by show (De.start L).top.length≤1000;rw[htop];exact hl,by show (De.start L).left.length≤17;rw[hlf];simp⟩
  rw[if_neg hq]
  obtain ⟨n1,n2,n3⟩:=next_less (s:=De.start L) (tag:=tag)
  cases hn:De.next (De.start L) tag with
  |mk s2 r =>
   rw[hn] at n1 n2 n3
   rw[htop] at n2 n3
   rw[hlf] at n1
   have n1:s2.left=[]:=n1
   have n2:s2.top.length≤L.length:=n2
   cases r with
   |none=>exact ⟨by show s2.top.length≤1000;omega,by show s2.left.length≤17;rw[n1];simp⟩
   |some xy =>
    obtain ⟨x,y⟩:=xy
    have:=(n3 x y rfl).2.2
    exact ⟨by show x.length≤1000;omega,by show (s2.top :: s2.left).length≤17;rw[n1];simp⟩
 refine ⟨?_,key.1,key.2,h28⟩
 unfold szR
 split <;> omega
theorem LeftI.le {j:Nat} {s:De.Rd} (h:LeftI j s):j≤1000:=by have:=h.sz;omega
theorem ask_leave (s:De.Rd) (tag least most:Int):(De.ask s 2 tag least most).1=De.leave s:=by
 unfold De.ask
 by_cases he:s.e≠0
 ·rw[if_pos he,leave_e he]
 ·rw[if_neg he,if_neg (by decide),if_pos rfl]
theorem ask_enter (s:De.Rd) (tag least most:Int):(De.ask s 1 tag least most).1=(De.enter s tag).1:=by
 unfold De.ask
 by_cases he:s.e≠0
 ·rw[if_pos he];unfold De.enter;rw[if_pos he]
 ·rw[if_neg he,if_pos rfl]
end Go.Proofs.YtndkifkhdollgaaGreatDoor
namespace Go.Proofs.YtndkifkhdollgaaGreatDoor
open Lib (hid)
open Go.RowKit
def SaidO (v:Value) (b:List Nat) (R:Except Nat De.Val) (w w':World) (e:Ending):Prop:=w.grownBy w' none∧∃ (n:Int) (q:Bool) (a:Option Addr) (l c:Nat) (S:ByteArray),e=.returned (.tuple #[.agg #[.int .i64 0,.int .i64 n,.bool q,.slice a l c,.string S],.int .i64 (errNat R:Nat)]) ∧
 ∀ x,R=.ok x→x.kind=0∧x.n=n∧x.is=q∧x.t=strL S∧((x.b=[]∧Value.slice a l c=.slice none 0 0)∨(x.b=b∧Value.slice a l c=v))
theorem dr_one5 (k n:Int) (q:Bool) (a:Option Addr) (l c:Nat) (S:ByteArray):(#[.int .i64 k,.int .i64 n,.bool q,.slice a l c,.string S]:Array Value).all (·.oneCell')=true:=by simp[Value.oneCell']
theorem dr_grown {w W2 w3 w4:World} {oa oc:Obj} {D:Array Value} (hW:W2=(w.alloc oa).alloc oc) (hg:W2.grownBy w3 none) (h4:w4=w3.setRow (w.heap.size+1) D):w.grownBy w4 none:=by
 subst hW
 subst h4
 have hga:w.grownBy ((w.alloc oa).alloc oc) none:=grown_alloc (World.grownBy_alloc _ _ _) _
 have h1:=grown_trans hga hg
 have hs:=hg.size
 rw[alloc2_size] at hs
 exact ⟨h1.os,h1.tape,h1.output,by simp;exact h1.size,fun k hk hne=>by
  rw[setRow_other _ _ _ _ (by omega)];exact h1.block k hk hne⟩
theorem wget_err {l:List Nat} {k:Nat} (h:Wh.get l=.error k):k≠0:=by
 unfold Wh.get at h
 split at h
 ·cases h;decide
 ·split at h
  ·cases h;decide
  ·split at h
   ·cases h;decide
   ·cases h
theorem saidO_err {v:Value} {b:List Nat} {R:Except Nat De.Val} {k:Nat} {n:Int} {w w':World} (h:R=.error k) (hg:w.grownBy w' none) (q:Bool) (a:Option Addr) (l c:Nat) (S:ByteArray):SaidO v b R w w' (.returned (.tuple #[.agg #[.int .i64 0,.int .i64 n,.bool q,.slice a l c,.string S],.int .i64 (k:Nat)])):=by
 subst h
 exact ⟨hg,_,_,_,_,_,_,rfl,fun x h=>by cases h⟩
theorem refSaid_3 {w:World} (v:Value) (b:List Nat) (tag least most:Int) (hB:Bytes w v b) :
  Calls Tryz.prog 70 #[.agg #[.int .i64 3,.int .i64 tag,.int .i64 least,.int .i64 most],v] w fun e w'=>SaidO v b (De.said 3 least most b) w w' e:=by
 obtain ⟨R,hR⟩:∃ R,R=De.said 3 least most b:=⟨_,rfl⟩
 rw[←hR]
 unfold De.said at hR
 rw[if_pos (by decide)] at hR
 obtain ⟨W2,hW2⟩:∃ W2,W2=(w.alloc (.cells #[.int .i64 3,.int .i64 tag,.int .i64 least,.int .i64 most] 31)).alloc (.cells #[.int .i64 0,.int .i64 0,.bool false,.slice none 0 0,.string ⟨#[]⟩] 41):=⟨_,rfl⟩
 have hga:w.grownBy W2 none:=by rw[hW2];exact grown_alloc (World.grownBy_alloc _ _ _) _
 have b0:W2.heap[w.heap.size]?=some (.cells #[.int .i64 3,.int .i64 tag,.int .i64 least,.int .i64 most] 31 (0,0)):=by rw[hW2];exact alloc2_old _ _ _
 have b1:W2.heap[w.heap.size+1]?=some (.cells #[.int .i64 0,.int .i64 0,.bool false,.slice none 0 0,.string ⟨#[]⟩] 41 (0,0)):=by rw[hW2];exact alloc2_new _ _ _
 have hs2:W2.heap.size=w.heap.size+2:=by rw[hW2,alloc2_size]
 have HB3:Hid (∀ w3,W2.grownBy w3 none→w3.heap[w.heap.size+1]?=some (.cells #[.int .i64 0,.int .i64 0,.bool false,.slice none 0 0,.string ⟨#[]⟩] 41 (0,0))):=hid (fun w3 hg=>(hg.block _ (by omega) (by simp)).trans b1)
 have HA3:Hid (∀ w3,W2.grownBy w3 none→w3.heap[w.heap.size]?=some (.cells #[.int .i64 3,.int .i64 tag,.int .i64 least,.int .i64 most] 31 (0,0))):=hid (fun w3 hg=>(hg.block _ (by omega) (by simp)).trans b0)
 have HW2:=hid hW2
 have HI5:Hid ((Tryz.prog.info? 41).map (·.size)=some 5):=hid (by kernel_rfl)
 have hn:=refWGet_any v b W2 (hB.grown hga)
 have HG2:=hid (grown_refl W2 none)
 cases hw:Wh.get b with
 |error k =>
  rw[hw] at hR hn
  simp only at hR hn
  have hk:((k:Nat):Int)≠0:=by have:=wget_err hw;omega
  have HN:Hid (Calls Tryz.prog 124 #[v] W2 fun e w'=>e=.returned (.tuple #[.int .i64 0,.int .i64 (k:Nat)])∧W2.grownBy w' none):=hid (hn.mono (fun e w' h=>⟨h.2,by rw[h.1];exact grown_refl _ _⟩))
  have HR:=hid hR
  have c0:=cell_blk (HA3.out _ HG2.out) 0 rfl
  rw[hW2] at c0
  clear hn hw hR hB hga b0 b1 hs2 hW2
  go_enter Tryz.func70,Tryz.ntmps70
  go_wp2_with (first
   |(go_at_call 124;rw[←HW2.out];refine HN.out.mono ?_;rintro e w3 ⟨rfl,hg3⟩;have HG3:=hid hg3;have d0:=cell_blk (HA3.out _ hg3) 0 rfl;have d2:=cell_blk (HA3.out _ hg3) 2 rfl;have d3:=cell_blk (HA3.out _ hg3) 3 rfl;clear hg3)
   |(refine wpList_store_row (by rfl) 41 (.tmp 4) (.tmp 39) (by rfl) (w.heap.size+1) #[.int .i64 0,.int .i64 0,.bool false,.slice none 0 0,.string ⟨#[]⟩] (by rfl) (by rfl) _ _ (HB3.out _ HG3.out) HI5.out rfl (dr_one5 _ _ _ _ _ _ _) ?_;obtain ⟨w4,hw4⟩:∃ w4,w4=w3.setRow (w.heap.size+1) #[.int .i64 0,.int .i64 0,.bool false,.slice none 0 0,.string ⟨#[]⟩]:=⟨_,rfl⟩;rw[←hw4];have hb4:w4.heap[w.heap.size+1]?=some (.cells #[.int .i64 0,.int .i64 0,.bool false,.slice none 0 0,.string ⟨#[]⟩] 41 (0,0)):=(by rw[hw4];exact setRow_heap _ _ _ _ _ _ (HB3.out _ HG3.out));have HW4:=hid hw4;have HB4:=hid hb4;clear hw4 hb4))
  refine bodyPost_ret (v:=.tuple #[.agg #[.int .i64 0,.int .i64 0,.bool false,.slice none 0 0,.string ⟨#[]⟩],.int .i64 (k:Nat)]) ?_ rfl ?_
  ·exact results_rowT Tryz.results70 _ _ (w.heap.size+1) _ _ (0,0) _ _ rfl HB4.out Tryz.underlying41 rfl HI5.out rfl
  exact saidO_err HR.out (dr_grown HW2.out HG3.out HW4.out) _ _ _ _ _
 |ok n =>
  rw[hw] at hR hn
  simp only at hR hn
  have HN:Hid (Calls Tryz.prog 124 #[v] W2 fun e w'=>e=.returned (.tuple #[.int .i64 n,.int .i64 0])∧W2.grownBy w' none):=hid (hn.mono (fun e w' h=>⟨h.2,by rw[h.1];exact grown_refl _ _⟩))
  have c0:=cell_blk (HA3.out _ HG2.out) 0 rfl
  rw[hW2] at c0
  clear hn hw hB hga b0 b1 hs2 hW2
  by_cases h1:n<least
  ·rw[if_pos (.inl h1)] at hR
   have HR:=hid hR
   clear hR
   go_enter Tryz.func70,Tryz.ntmps70
   go_wp2_with (first
    |(go_at_call 124;rw[←HW2.out];refine HN.out.mono ?_;rintro e w3 ⟨rfl,hg3⟩;have HG3:=hid hg3;have d0:=cell_blk (HA3.out _ hg3) 0 rfl;have d2:=cell_blk (HA3.out _ hg3) 2 rfl;have d3:=cell_blk (HA3.out _ hg3) 3 rfl;clear hg3)
    |(refine wpList_store_row (by rfl) 41 (.tmp 4) (.tmp 39) (by rfl) (w.heap.size+1) #[.int .i64 0,.int .i64 n,.bool false,.slice none 0 0,.string ⟨#[]⟩] (by rfl) (by rfl) _ _ (HB3.out _ HG3.out) HI5.out rfl (dr_one5 _ _ _ _ _ _ _) ?_;obtain ⟨w4,hw4⟩:∃ w4,w4=w3.setRow (w.heap.size+1) #[.int .i64 0,.int .i64 n,.bool false,.slice none 0 0,.string ⟨#[]⟩]:=⟨_,rfl⟩;rw[←hw4];have hb4:w4.heap[w.heap.size+1]?=some (.cells #[.int .i64 0,.int .i64 n,.bool false,.slice none 0 0,.string ⟨#[]⟩] 41 (0,0)):=(by rw[hw4];exact setRow_heap _ _ _ _ _ _ (HB3.out _ HG3.out));have HW4:=hid hw4;have HB4:=hid hb4;clear hw4 hb4))
   refine bodyPost_ret (v:=.tuple #[.agg #[.int .i64 0,.int .i64 n,.bool false,.slice none 0 0,.string ⟨#[]⟩],.int .i64 1]) ?_ rfl ?_
   ·exact results_rowT Tryz.results70 _ _ (w.heap.size+1) _ _ (0,0) _ _ rfl HB4.out Tryz.underlying41 rfl HI5.out rfl
   exact saidO_err HR.out (dr_grown HW2.out HG3.out HW4.out) _ _ _ _ _
  by_cases h2:most<n
  ·rw[if_pos (.inr h2)] at hR
   have HR:=hid hR
   clear hR
   go_enter Tryz.func70,Tryz.ntmps70
   go_wp2_with (first
    |(go_at_call 124;rw[←HW2.out];refine HN.out.mono ?_;rintro e w3 ⟨rfl,hg3⟩;have HG3:=hid hg3;have d0:=cell_blk (HA3.out _ hg3) 0 rfl;have d2:=cell_blk (HA3.out _ hg3) 2 rfl;have d3:=cell_blk (HA3.out _ hg3) 3 rfl;clear hg3)
    |(refine wpList_store_row (by rfl) 41 (.tmp 4) (.tmp 39) (by rfl) (w.heap.size+1) #[.int .i64 0,.int .i64 n,.bool false,.slice none 0 0,.string ⟨#[]⟩] (by rfl) (by rfl) _ _ (HB3.out _ HG3.out) HI5.out rfl (dr_one5 _ _ _ _ _ _ _) ?_;obtain ⟨w4,hw4⟩:∃ w4,w4=w3.setRow (w.heap.size+1) #[.int .i64 0,.int .i64 n,.bool false,.slice none 0 0,.string ⟨#[]⟩]:=⟨_,rfl⟩;rw[←hw4];have hb4:w4.heap[w.heap.size+1]?=some (.cells #[.int .i64 0,.int .i64 n,.bool false,.slice none 0 0,.string ⟨#[]⟩] 41 (0,0)):=(by rw[hw4];exact setRow_heap _ _ _ _ _ _ (HB3.out _ HG3.out));have HW4:=hid hw4;have HB4:=hid hb4;clear hw4 hb4))
   refine bodyPost_ret (v:=.tuple #[.agg #[.int .i64 0,.int .i64 n,.bool false,.slice none 0 0,.string ⟨#[]⟩],.int .i64 1]) ?_ rfl ?_
   ·exact results_rowT Tryz.results70 _ _ (w.heap.size+1) _ _ (0,0) _ _ rfl HB4.out Tryz.underlying41 rfl HI5.out rfl
   exact saidO_err HR.out (dr_grown HW2.out HG3.out HW4.out) _ _ _ _ _
  rw[if_neg (by omega)] at hR
  have HR:=hid hR
  clear hR
  go_enter Tryz.func70,Tryz.ntmps70
  go_wp2_with (first
   |(go_at_call 124;rw[←HW2.out];refine HN.out.mono ?_;rintro e w3 ⟨rfl,hg3⟩;have HG3:=hid hg3;have d0:=cell_blk (HA3.out _ hg3) 0 rfl;have d2:=cell_blk (HA3.out _ hg3) 2 rfl;have d3:=cell_blk (HA3.out _ hg3) 3 rfl;clear hg3)
   |(refine wpList_store_row (by rfl) 41 (.tmp 4) (.tmp 39) (by rfl) (w.heap.size+1) #[.int .i64 0,.int .i64 n,.bool false,.slice none 0 0,.string ⟨#[]⟩] (by rfl) (by rfl) _ _ (HB3.out _ HG3.out) HI5.out rfl (dr_one5 _ _ _ _ _ _ _) ?_;obtain ⟨w4,hw4⟩:∃ w4,w4=w3.setRow (w.heap.size+1) #[.int .i64 0,.int .i64 n,.bool false,.slice none 0 0,.string ⟨#[]⟩]:=⟨_,rfl⟩;rw[←hw4];have hb4:w4.heap[w.heap.size+1]?=some (.cells #[.int .i64 0,.int .i64 n,.bool false,.slice none 0 0,.string ⟨#[]⟩] 41 (0,0)):=(by rw[hw4];exact setRow_heap _ _ _ _ _ _ (HB3.out _ HG3.out));have HW4:=hid hw4;have HB4:=hid hb4;clear hw4 hb4))
  refine bodyPost_ret (v:=.tuple #[.agg #[.int .i64 0,.int .i64 n,.bool false,.slice none 0 0,.string ⟨#[]⟩],.int .i64 0]) ?_ rfl ?_
  ·exact results_rowT Tryz.results70 _ _ (w.heap.size+1) _ _ (0,0) _ _ rfl HB4.out Tryz.underlying41 rfl HI5.out rfl
  rw[HR.out]
  exact ⟨dr_grown HW2.out HG3.out HW4.out,_,_,_,_,_,_,rfl,fun x h=>by cases h;exact ⟨rfl,rfl,rfl,rfl,.inl ⟨rfl,rfl⟩⟩⟩
theorem refSaid_4 {w:World} (v:Value) (b:List Nat) (tag least most:Int) (hB:Bytes w v b) :
  Calls Tryz.prog 70 #[.agg #[.int .i64 4,.int .i64 tag,.int .i64 least,.int .i64 most],v] w fun e w'=>SaidO v b (De.said 4 least most b) w w' e:=by
 obtain ⟨R,hR⟩:∃ R,R=De.said 4 least most b:=⟨_,rfl⟩
 rw[←hR]
 unfold De.said at hR
 rw[if_pos (by decide)] at hR
 obtain ⟨W2,hW2⟩:∃ W2,W2=(w.alloc (.cells #[.int .i64 4,.int .i64 tag,.int .i64 least,.int .i64 most] 31)).alloc (.cells #[.int .i64 0,.int .i64 0,.bool false,.slice none 0 0,.string ⟨#[]⟩] 41):=⟨_,rfl⟩
 have hga:w.grownBy W2 none:=by rw[hW2];exact grown_alloc (World.grownBy_alloc _ _ _) _
 have b0:W2.heap[w.heap.size]?=some (.cells #[.int .i64 4,.int .i64 tag,.int .i64 least,.int .i64 most] 31 (0,0)):=by rw[hW2];exact alloc2_old _ _ _
 have b1:W2.heap[w.heap.size+1]?=some (.cells #[.int .i64 0,.int .i64 0,.bool false,.slice none 0 0,.string ⟨#[]⟩] 41 (0,0)):=by rw[hW2];exact alloc2_new _ _ _
 have hs2:W2.heap.size=w.heap.size+2:=by rw[hW2,alloc2_size]
 have HB3:Hid (∀ w3,W2.grownBy w3 none→w3.heap[w.heap.size+1]?=some (.cells #[.int .i64 0,.int .i64 0,.bool false,.slice none 0 0,.string ⟨#[]⟩] 41 (0,0))):=hid (fun w3 hg=>(hg.block _ (by omega) (by simp)).trans b1)
 have HA3:Hid (∀ w3,W2.grownBy w3 none→w3.heap[w.heap.size]?=some (.cells #[.int .i64 4,.int .i64 tag,.int .i64 least,.int .i64 most] 31 (0,0))):=hid (fun w3 hg=>(hg.block _ (by omega) (by simp)).trans b0)
 have HW2:=hid hW2
 have HI5:Hid ((Tryz.prog.info? 41).map (·.size)=some 5):=hid (by kernel_rfl)
 have hn:=refWGet_any v b W2 (hB.grown hga)
 have HG2:=hid (grown_refl W2 none)
 cases hw:Wh.get b with
 |error k =>
  rw[hw] at hR hn
  simp only at hR hn
  have hk:((k:Nat):Int)≠0:=by have:=wget_err hw;omega
  have HN:Hid (Calls Tryz.prog 124 #[v] W2 fun e w'=>e=.returned (.tuple #[.int .i64 0,.int .i64 (k:Nat)])∧W2.grownBy w' none):=hid (hn.mono (fun e w' h=>⟨h.2,by rw[h.1];exact grown_refl _ _⟩))
  have HR:=hid hR
  have c0:=cell_blk (HA3.out _ HG2.out) 0 rfl
  rw[hW2] at c0
  clear hn hw hR hB hga b0 b1 hs2 hW2
  go_enter Tryz.func70,Tryz.ntmps70
  go_wp2_with (first
   |(go_at_call 124;rw[←HW2.out];refine HN.out.mono ?_;rintro e w3 ⟨rfl,hg3⟩;have HG3:=hid hg3;have d0:=cell_blk (HA3.out _ hg3) 0 rfl;have d2:=cell_blk (HA3.out _ hg3) 2 rfl;have d3:=cell_blk (HA3.out _ hg3) 3 rfl;clear hg3)
   |(refine wpList_store_row (by rfl) 41 (.tmp 4) (.tmp 39) (by rfl) (w.heap.size+1) #[.int .i64 0,.int .i64 0,.bool false,.slice none 0 0,.string ⟨#[]⟩] (by rfl) (by rfl) _ _ (HB3.out _ HG3.out) HI5.out rfl (dr_one5 _ _ _ _ _ _ _) ?_;obtain ⟨w4,hw4⟩:∃ w4,w4=w3.setRow (w.heap.size+1) #[.int .i64 0,.int .i64 0,.bool false,.slice none 0 0,.string ⟨#[]⟩]:=⟨_,rfl⟩;rw[←hw4];have hb4:w4.heap[w.heap.size+1]?=some (.cells #[.int .i64 0,.int .i64 0,.bool false,.slice none 0 0,.string ⟨#[]⟩] 41 (0,0)):=(by rw[hw4];exact setRow_heap _ _ _ _ _ _ (HB3.out _ HG3.out));have HW4:=hid hw4;have HB4:=hid hb4;clear hw4 hb4))
  refine bodyPost_ret (v:=.tuple #[.agg #[.int .i64 0,.int .i64 0,.bool false,.slice none 0 0,.string ⟨#[]⟩],.int .i64 (k:Nat)]) ?_ rfl ?_
  ·exact results_rowT Tryz.results70 _ _ (w.heap.size+1) _ _ (0,0) _ _ rfl HB4.out Tryz.underlying41 rfl HI5.out rfl
  exact saidO_err HR.out (dr_grown HW2.out HG3.out HW4.out) _ _ _ _ _
 |ok n =>
  rw[hw] at hR hn
  simp only at hR hn
  have HN:Hid (Calls Tryz.prog 124 #[v] W2 fun e w'=>e=.returned (.tuple #[.int .i64 n,.int .i64 0])∧W2.grownBy w' none):=hid (hn.mono (fun e w' h=>⟨h.2,by rw[h.1];exact grown_refl _ _⟩))
  have c0:=cell_blk (HA3.out _ HG2.out) 0 rfl
  rw[hW2] at c0
  clear hn hw hB hga b0 b1 hs2 hW2
  by_cases h1:n<least
  ·rw[if_pos (.inl h1)] at hR
   have HR:=hid hR
   clear hR
   go_enter Tryz.func70,Tryz.ntmps70
   go_wp2_with (first
    |(go_at_call 124;rw[←HW2.out];refine HN.out.mono ?_;rintro e w3 ⟨rfl,hg3⟩;have HG3:=hid hg3;have d0:=cell_blk (HA3.out _ hg3) 0 rfl;have d2:=cell_blk (HA3.out _ hg3) 2 rfl;have d3:=cell_blk (HA3.out _ hg3) 3 rfl;clear hg3)
    |(refine wpList_store_row (by rfl) 41 (.tmp 4) (.tmp 39) (by rfl) (w.heap.size+1) #[.int .i64 0,.int .i64 n,.bool false,.slice none 0 0,.string ⟨#[]⟩] (by rfl) (by rfl) _ _ (HB3.out _ HG3.out) HI5.out rfl (dr_one5 _ _ _ _ _ _ _) ?_;obtain ⟨w4,hw4⟩:∃ w4,w4=w3.setRow (w.heap.size+1) #[.int .i64 0,.int .i64 n,.bool false,.slice none 0 0,.string ⟨#[]⟩]:=⟨_,rfl⟩;rw[←hw4];have hb4:w4.heap[w.heap.size+1]?=some (.cells #[.int .i64 0,.int .i64 n,.bool false,.slice none 0 0,.string ⟨#[]⟩] 41 (0,0)):=(by rw[hw4];exact setRow_heap _ _ _ _ _ _ (HB3.out _ HG3.out));have HW4:=hid hw4;have HB4:=hid hb4;clear hw4 hb4))
   refine bodyPost_ret (v:=.tuple #[.agg #[.int .i64 0,.int .i64 n,.bool false,.slice none 0 0,.string ⟨#[]⟩],.int .i64 1]) ?_ rfl ?_
   ·exact results_rowT Tryz.results70 _ _ (w.heap.size+1) _ _ (0,0) _ _ rfl HB4.out Tryz.underlying41 rfl HI5.out rfl
   exact saidO_err HR.out (dr_grown HW2.out HG3.out HW4.out) _ _ _ _ _
  by_cases h2:most<n
  ·rw[if_pos (.inr h2)] at hR
   have HR:=hid hR
   clear hR
   go_enter Tryz.func70,Tryz.ntmps70
   go_wp2_with (first
    |(go_at_call 124;rw[←HW2.out];refine HN.out.mono ?_;rintro e w3 ⟨rfl,hg3⟩;have HG3:=hid hg3;have d0:=cell_blk (HA3.out _ hg3) 0 rfl;have d2:=cell_blk (HA3.out _ hg3) 2 rfl;have d3:=cell_blk (HA3.out _ hg3) 3 rfl;clear hg3)
    |(refine wpList_store_row (by rfl) 41 (.tmp 4) (.tmp 39) (by rfl) (w.heap.size+1) #[.int .i64 0,.int .i64 n,.bool false,.slice none 0 0,.string ⟨#[]⟩] (by rfl) (by rfl) _ _ (HB3.out _ HG3.out) HI5.out rfl (dr_one5 _ _ _ _ _ _ _) ?_;obtain ⟨w4,hw4⟩:∃ w4,w4=w3.setRow (w.heap.size+1) #[.int .i64 0,.int .i64 n,.bool false,.slice none 0 0,.string ⟨#[]⟩]:=⟨_,rfl⟩;rw[←hw4];have hb4:w4.heap[w.heap.size+1]?=some (.cells #[.int .i64 0,.int .i64 n,.bool false,.slice none 0 0,.string ⟨#[]⟩] 41 (0,0)):=(by rw[hw4];exact setRow_heap _ _ _ _ _ _ (HB3.out _ HG3.out));have HW4:=hid hw4;have HB4:=hid hb4;clear hw4 hb4))
   refine bodyPost_ret (v:=.tuple #[.agg #[.int .i64 0,.int .i64 n,.bool false,.slice none 0 0,.string ⟨#[]⟩],.int .i64 1]) ?_ rfl ?_
   ·exact results_rowT Tryz.results70 _ _ (w.heap.size+1) _ _ (0,0) _ _ rfl HB4.out Tryz.underlying41 rfl HI5.out rfl
   exact saidO_err HR.out (dr_grown HW2.out HG3.out HW4.out) _ _ _ _ _
  rw[if_neg (by omega)] at hR
  have HR:=hid hR
  clear hR
  go_enter Tryz.func70,Tryz.ntmps70
  go_wp2_with (first
   |(go_at_call 124;rw[←HW2.out];refine HN.out.mono ?_;rintro e w3 ⟨rfl,hg3⟩;have HG3:=hid hg3;have d0:=cell_blk (HA3.out _ hg3) 0 rfl;have d2:=cell_blk (HA3.out _ hg3) 2 rfl;have d3:=cell_blk (HA3.out _ hg3) 3 rfl;clear hg3)
   |(refine wpList_store_row (by rfl) 41 (.tmp 4) (.tmp 39) (by rfl) (w.heap.size+1) #[.int .i64 0,.int .i64 n,.bool false,.slice none 0 0,.string ⟨#[]⟩] (by rfl) (by rfl) _ _ (HB3.out _ HG3.out) HI5.out rfl (dr_one5 _ _ _ _ _ _ _) ?_;obtain ⟨w4,hw4⟩:∃ w4,w4=w3.setRow (w.heap.size+1) #[.int .i64 0,.int .i64 n,.bool false,.slice none 0 0,.string ⟨#[]⟩]:=⟨_,rfl⟩;rw[←hw4];have hb4:w4.heap[w.heap.size+1]?=some (.cells #[.int .i64 0,.int .i64 n,.bool false,.slice none 0 0,.string ⟨#[]⟩] 41 (0,0)):=(by rw[hw4];exact setRow_heap _ _ _ _ _ _ (HB3.out _ HG3.out));have HW4:=hid hw4;have HB4:=hid hb4;clear hw4 hb4))
  refine bodyPost_ret (v:=.tuple #[.agg #[.int .i64 0,.int .i64 n,.bool false,.slice none 0 0,.string ⟨#[]⟩],.int .i64 0]) ?_ rfl ?_
  ·exact results_rowT Tryz.results70 _ _ (w.heap.size+1) _ _ (0,0) _ _ rfl HB4.out Tryz.underlying41 rfl HI5.out rfl
  rw[HR.out]
  exact ⟨dr_grown HW2.out HG3.out HW4.out,_,_,_,_,_,_,rfl,fun x h=>by cases h;exact ⟨rfl,rfl,rfl,rfl,.inl ⟨rfl,rfl⟩⟩⟩
theorem build1c_val {P:Program} {a:Act} {o:Oper} {w:World} {t:TypeId} {x:Operand} {k:Nat} {p v:Value} (ho:o.op=.build t #[(k,x)]) (hx:a.eval x=p) (h:(Instr.build t #[(k,p)]).run P w=.ok v w):(execOp a.eval o).run P w=.ok (.value v) w:=by
 simp only[execOp,ho,List.map_toArray,List.map_cons,List.map_nil,hx]
 simp[Result.andThen,h]
noncomputable def sd_regionC:Code:=regionIn Tryz.f70.body 21
theorem sd_region (a:Act) (v:Value) (g:Nat) (S:ByteArray) (n:Int) (k:Nat) (W w:World) (Q:Exit→Act→World→Prop) (hsz:a.tmps.size=126)
  (h1:a.eval (.tmp 1)=v) (h2:a.eval (.tmp 2)=.pointer (some ⟨g,0,none⟩)) (h4:a.eval (.tmp 4)=.pointer (some ⟨g+1,0,none⟩))
  (hcv:∀ w,W.grownBy w none→(convert 22 9 v).run Tryz.prog w=.ok (.string S) w)
  (hF3:∀ w,(Instr.fieldAt 31 (.pointer (some ⟨g,0,none⟩)) 3).run Tryz.prog w=.ok (.pointer (some ⟨g,3,none⟩)) w)
  (hL3:∀ w,W.grownBy w none→(Instr.loadAt 3 (.pointer (some ⟨g,3,none⟩))).run Tryz.prog w=.ok (.int .i64 n) w)
  (hA:∀ w,Calls Tryz.prog 125 #[.string S,.int .i64 n] w fun e w'=>e=.returned (.int .i64 (k:Int))∧w'=w)
  (hB:∀ w,W.grownBy w none→w.heap[g+1]?=some (.cells #[.int .i64 0,.int .i64 0,.bool false,.slice none 0 0,.string ⟨#[]⟩] 41 (0,0)))
  (hI5:(Tryz.prog.info? 41).map (·.size)=some 5)
  (hw:W.grownBy { w with drawn:=w.drawn+1 } none)
  (hQ:∀ us w',W.grownBy w' none→Q .normal ((fill a [86,87,88,89,90,91,92,93] us).put (some 5) (.int .i64 (k:Int))) (w'.setRow (g+1) #[.int .i64 0,.int .i64 0,.bool false,.slice none 0 0,.string S])):sd_regionC.wp Tryz.prog Q a w:=by
 have hst:StaysAll [isV v,isV (.string S),isV (.agg #[.int .i64 0,.int .i64 0,.bool false,.slice none 0 0,.string S]),isV v,isV (.string S),isV (.pointer (some ⟨g,3,none⟩)),isV (.int .i64 n),isV (.int .i64 (k:Int))]:=⟨stays_V _,stays_V _,stays_V _,stays_V _,stays_V _,stays_V _,stays_V _,stays_V _,trivial⟩
 conv=>arg 2;whnf
 refine wp_region_flow 8 [86,87,88,89,90,91,92,93] (fun w'=>W.grownBy w' none) (fun w w'=>w.grownBy w' none) (flF [isV v,isV (.string S),isV (.agg #[.int .i64 0,.int .i64 0,.bool false,.slice none 0 0,.string S]),isV v,isV (.string S),isV (.pointer (some ⟨g,3,none⟩)),isV (.int .i64 n),isV (.int .i64 (k:Int))]) (by kernel_rfl) (by kernel_rfl) (fun _ _ h k=>grown_trans k h) (fun j x w w' hg h=>flF_stays hst j x w w' hg h) hw ?_ ?_
 ·refine ⟨?_,?_,?_,?_,?_,?_,?_,?_,trivial⟩
  ·exact flow_step (fun us w hC hd=>wants_free rfl) (fun us w hC hd=>⟨_,w,move_val rfl ((fill_old (by rfl)).trans h1),grown_refl _ _,rfl⟩)
  ·exact flow_step (fun us w hC hd=>wants_free rfl) (fun us w hC hd=>⟨_,w,conv_val rfl ((fill_tmp (by rfl) (by rw[hsz];decide)).trans (hd 0 (by decide))) (hcv w hC),grown_refl _ _,rfl⟩)
  ·exact flow_step (fun us w hC hd=>wants_free rfl) (fun us w hC hd=>⟨_,w,build1c_val rfl ((fill_tmp (by rfl) (by rw[hsz];decide)).trans (hd 1 (by decide))) (by simp[go_sem]),grown_refl _ _,rfl⟩)
  ·exact flow_step (fun us w hC hd=>wants_free rfl) (fun us w hC hd=>⟨_,w,move_val rfl ((fill_old (by rfl)).trans h1),grown_refl _ _,rfl⟩)
  ·exact flow_step (fun us w hC hd=>wants_free rfl) (fun us w hC hd=>⟨_,w,conv_val rfl ((fill_tmp (by rfl) (by rw[hsz];decide)).trans (hd 3 (by decide))) (hcv w hC),grown_refl _ _,rfl⟩)
  ·exact flow_step (fun us w hC hd=>wants_free rfl) (fun us w hC hd=>⟨_,w,fieldc_val rfl ((fill_old (by rfl)).trans h2) (hF3 w),grown_refl _ _,rfl⟩)
  ·exact flow_step (fun us w hC hd=>wants_free rfl) (fun us w hC hd=>⟨_,w,loadc_val rfl ((fill_tmp (by rfl) (by rw[hsz];decide)).trans (hd 5 (by decide))) (hL3 w hC),grown_refl _ _,rfl⟩)
  ·refine flow_call 125 (fun us=>#[us 90,us 92]) (fun us w hC hd=>wants_free rfl) (fun us w=>by rw[call_enter rfl (fun _ _=>by simp[go_sem]),List.map_toArray,List.map_cons,List.map_cons,List.map_nil,fill_tmp (by rfl) (by rw[hsz];decide),fill_tmp (by rfl) (by rw[hsz];decide)]) (fun us w hC' hd=>?_)
   rw[show us 90=.string S from hd 4 (by decide)]
   rw[show us 92=.int .i64 n from hd 6 (by decide)]
   exact (hA w).mono (by rintro e w' ⟨rfl,h⟩;rw[h];exact ⟨_,rfl,grown_refl _ _,rfl⟩)
 ·intro us w' hC' hd
  refine wpList_store_row (by rfl) 41 (.tmp 4) (.tmp 88) (by rfl) (g+1) #[.int .i64 0,.int .i64 0,.bool false,.slice none 0 0,.string S] ((fill_old (by rfl)).trans h4) ((fill_tmp (by rfl) (by rw[hsz];decide)).trans (hd 2 (by decide))) _ _ (hB w' hC') hI5 rfl (dr_one5 _ _ _ _ _ _ _) ?_
  exact wpList_last rfl (assign_val rfl ((fill_tmp (by rfl) (by rw[hsz];decide)).trans (hd 7 (by decide)))) (hQ us w' hC')
theorem refSaid_6 {w:World} (v:Value) (b:List Nat) (tag least most:Int) (hB:Bytes w v b) :
  Calls Tryz.prog 70 #[.agg #[.int .i64 6,.int .i64 tag,.int .i64 least,.int .i64 most],v] w fun e w'=>SaidO v b (De.said 6 least most b) w w' e:=by
 obtain ⟨R,hR⟩:∃ R,R=De.said 6 least most b:=⟨_,rfl⟩
 rw[←hR]
 unfold De.said at hR
 rw[if_neg (by decide),if_neg (by decide),if_pos rfl] at hR
 obtain ⟨W2,hW2⟩:∃ W2,W2=(w.alloc (.cells #[.int .i64 6,.int .i64 tag,.int .i64 least,.int .i64 most] 31)).alloc (.cells #[.int .i64 0,.int .i64 0,.bool false,.slice none 0 0,.string ⟨#[]⟩] 41):=⟨_,rfl⟩
 have hga:w.grownBy W2 none:=by rw[hW2];exact grown_alloc (World.grownBy_alloc _ _ _) _
 have b0:W2.heap[w.heap.size]?=some (.cells #[.int .i64 6,.int .i64 tag,.int .i64 least,.int .i64 most] 31 (0,0)):=by rw[hW2];exact alloc2_old _ _ _
 have b1:W2.heap[w.heap.size+1]?=some (.cells #[.int .i64 0,.int .i64 0,.bool false,.slice none 0 0,.string ⟨#[]⟩] 41 (0,0)):=by rw[hW2];exact alloc2_new _ _ _
 have hs2:W2.heap.size=w.heap.size+2:=by rw[hW2,alloc2_size]
 have HB3:Hid (∀ w3,W2.grownBy w3 none→w3.heap[w.heap.size+1]?=some (.cells #[.int .i64 0,.int .i64 0,.bool false,.slice none 0 0,.string ⟨#[]⟩] 41 (0,0))):=hid (fun w3 hg=>(hg.block _ (by omega) (by simp)).trans b1)
 have HA3:Hid (∀ w3,W2.grownBy w3 none→w3.heap[w.heap.size]?=some (.cells #[.int .i64 6,.int .i64 tag,.int .i64 least,.int .i64 most] 31 (0,0))):=hid (fun w3 hg=>(hg.block _ (by omega) (by simp)).trans b0)
 have HW2:=hid hW2
 have HI5:Hid ((Tryz.prog.info? 41).map (·.size)=some 5):=hid (by kernel_rfl)
 have HG2:=hid (grown_refl W2 none)
 obtain ⟨_,va,_,_,vc,rfl,_⟩:=hB
 obtain ⟨n,hn⟩:∃ n,n=b.length:=⟨_,rfl⟩
 rw[←hn] at hR ⊢
 have c0:=cell_blk (HA3.out _ HG2.out) 0 rfl
 have c2:=cell_blk (HA3.out _ HG2.out) 2 rfl
 have c3:=cell_blk (HA3.out _ HG2.out) 3 rfl
 rw[hW2] at c0 c2 c3
 clear hga b0 b1 hs2 hW2 hn
 by_cases h1:(n:Int)<least
 ·rw[if_pos h1] at hR
  have HR:=hid hR
  clear hR
  go_enter Tryz.func70,Tryz.ntmps70
  go_wp2_with (rw[←HW2.out];refine wpList_store_row (by rfl) 41 (.tmp 4) (.tmp 75) (by rfl) (w.heap.size+1) #[.int .i64 0,.int .i64 0,.bool false,.slice none 0 0,.string ⟨#[]⟩] (by rfl) (by rfl) _ _ (HB3.out _ HG2.out) HI5.out rfl (dr_one5 _ _ _ _ _ _ _) ?_;obtain ⟨w4,hw4⟩:∃ w4,w4=W2.setRow (w.heap.size+1) #[.int .i64 0,.int .i64 0,.bool false,.slice none 0 0,.string ⟨#[]⟩]:=⟨_,rfl⟩;rw[←hw4];have hb4:w4.heap[w.heap.size+1]?=some (.cells #[.int .i64 0,.int .i64 0,.bool false,.slice none 0 0,.string ⟨#[]⟩] 41 (0,0)):=(by rw[hw4];exact setRow_heap _ _ _ _ _ _ (HB3.out _ HG2.out));have HW4:=hid hw4;have HB4:=hid hb4;clear hw4 hb4)
  refine bodyPost_ret (v:=.tuple #[.agg #[.int .i64 0,.int .i64 0,.bool false,.slice none 0 0,.string ⟨#[]⟩],.int .i64 2]) ?_ rfl ?_
  ·exact results_rowT Tryz.results70 _ _ (w.heap.size+1) _ _ (0,0) _ _ rfl HB4.out Tryz.underlying41 rfl HI5.out rfl
  exact saidO_err HR.out (dr_grown HW2.out HG2.out HW4.out) _ _ _ _ _
 rw[if_neg h1] at hR
 by_cases h2:most<(n:Int)
 ·rw[if_pos h2] at hR
  have HR:=hid hR
  clear hR
  go_enter Tryz.func70,Tryz.ntmps70
  go_wp2_with (rw[←HW2.out];refine wpList_store_row (by rfl) 41 (.tmp 4) (.tmp 81) (by rfl) (w.heap.size+1) #[.int .i64 0,.int .i64 0,.bool false,.slice none 0 0,.string ⟨#[]⟩] (by rfl) (by rfl) _ _ (HB3.out _ HG2.out) HI5.out rfl (dr_one5 _ _ _ _ _ _ _) ?_;obtain ⟨w4,hw4⟩:∃ w4,w4=W2.setRow (w.heap.size+1) #[.int .i64 0,.int .i64 0,.bool false,.slice none 0 0,.string ⟨#[]⟩]:=⟨_,rfl⟩;rw[←hw4];have hb4:w4.heap[w.heap.size+1]?=some (.cells #[.int .i64 0,.int .i64 0,.bool false,.slice none 0 0,.string ⟨#[]⟩] 41 (0,0)):=(by rw[hw4];exact setRow_heap _ _ _ _ _ _ (HB3.out _ HG2.out));have HW4:=hid hw4;have HB4:=hid hb4;clear hw4 hb4)
  refine bodyPost_ret (v:=.tuple #[.agg #[.int .i64 0,.int .i64 0,.bool false,.slice none 0 0,.string ⟨#[]⟩],.int .i64 3]) ?_ rfl ?_
  ·exact results_rowT Tryz.results70 _ _ (w.heap.size+1) _ _ (0,0) _ _ rfl HB4.out Tryz.underlying41 rfl HI5.out rfl
  exact saidO_err HR.out (dr_grown HW2.out HG2.out HW4.out) _ _ _ _ _
 rw[if_neg h2] at hR
 have HR:=hid hR
 clear hR
 go_enter Tryz.func70,Tryz.ntmps70
 go_wp2_with (rw[←HW2.out];refine wpList_store_row (by rfl) 41 (.tmp 4) (.tmp 83) (by rfl) (w.heap.size+1) #[.int .i64 0,.int .i64 0,.bool false,.slice va n vc,.string ⟨#[]⟩] (by rfl) (by rfl) _ _ (HB3.out _ HG2.out) HI5.out rfl (dr_one5 _ _ _ _ _ _ _) ?_;obtain ⟨w4,hw4⟩:∃ w4,w4=W2.setRow (w.heap.size+1) #[.int .i64 0,.int .i64 0,.bool false,.slice va n vc,.string ⟨#[]⟩]:=⟨_,rfl⟩;rw[←hw4];have hb4:w4.heap[w.heap.size+1]?=some (.cells #[.int .i64 0,.int .i64 0,.bool false,.slice va n vc,.string ⟨#[]⟩] 41 (0,0)):=(by rw[hw4];exact setRow_heap _ _ _ _ _ _ (HB3.out _ HG2.out));have HW4:=hid hw4;have HB4:=hid hb4;clear hw4 hb4)
 refine bodyPost_ret (v:=.tuple #[.agg #[.int .i64 0,.int .i64 0,.bool false,.slice va n vc,.string ⟨#[]⟩],.int .i64 0]) ?_ rfl ?_
 ·exact results_rowT Tryz.results70 _ _ (w.heap.size+1) _ _ (0,0) _ _ rfl HB4.out Tryz.underlying41 rfl HI5.out rfl
 rw[HR.out]
 exact ⟨dr_grown HW2.out HG2.out HW4.out,_,_,_,_,_,_,rfl,fun x h=>by cases h;exact ⟨rfl,rfl,rfl,rfl,.inr ⟨rfl,rfl⟩⟩⟩
theorem refSaid_5 {w:World} (v:Value) (b:List Nat) (tag least most:Int) (hB:Bytes w v b) :
  Calls Tryz.prog 70 #[.agg #[.int .i64 5,.int .i64 tag,.int .i64 least,.int .i64 most],v] w fun e w'=>SaidO v b (De.said 5 least most b) w w' e:=by
 obtain ⟨R,hR⟩:∃ R,R=De.said 5 least most b:=⟨_,rfl⟩
 rw[←hR]
 unfold De.said at hR
 rw[if_neg (by decide),if_pos rfl] at hR
 obtain ⟨W2,hW2⟩:∃ W2,W2=(w.alloc (.cells #[.int .i64 5,.int .i64 tag,.int .i64 least,.int .i64 most] 31)).alloc (.cells #[.int .i64 0,.int .i64 0,.bool false,.slice none 0 0,.string ⟨#[]⟩] 41):=⟨_,rfl⟩
 have hga:w.grownBy W2 none:=by rw[hW2];exact grown_alloc (World.grownBy_alloc _ _ _) _
 have b0:W2.heap[w.heap.size]?=some (.cells #[.int .i64 5,.int .i64 tag,.int .i64 least,.int .i64 most] 31 (0,0)):=by rw[hW2];exact alloc2_old _ _ _
 have b1:W2.heap[w.heap.size+1]?=some (.cells #[.int .i64 0,.int .i64 0,.bool false,.slice none 0 0,.string ⟨#[]⟩] 41 (0,0)):=by rw[hW2];exact alloc2_new _ _ _
 have hs2:W2.heap.size=w.heap.size+2:=by rw[hW2,alloc2_size]
 have HB3:Hid (∀ w3,W2.grownBy w3 none→w3.heap[w.heap.size+1]?=some (.cells #[.int .i64 0,.int .i64 0,.bool false,.slice none 0 0,.string ⟨#[]⟩] 41 (0,0))):=hid (fun w3 hg=>(hg.block _ (by omega) (by simp)).trans b1)
 have HA3:Hid (∀ w3,W2.grownBy w3 none→w3.heap[w.heap.size]?=some (.cells #[.int .i64 5,.int .i64 tag,.int .i64 least,.int .i64 most] 31 (0,0))):=hid (fun w3 hg=>(hg.block _ (by omega) (by simp)).trans b0)
 have HW2:=hid hW2
 have HI5:Hid ((Tryz.prog.info? 41).map (·.size)=some 5):=hid (by kernel_rfl)
 have HG2:=hid (grown_refl W2 none)
 obtain ⟨hlt,va,sb,so,vc,rfl,hvc,ha,hcell⟩:=hB
 have c0:=cell_blk (HA3.out _ HG2.out) 0 rfl
 rw[hW2] at c0
 rcases Nat.eq_zero_or_pos b.length with hz|hp
 ·rw[if_pos hz] at hR
  have HR:=hid hR
  rw[hz]
  clear hga b0 b1 hs2 hW2 hR hz ha hcell
  go_enter Tryz.func70,Tryz.ntmps70
  go_wp2_with (rw[←HW2.out];refine wpList_store_row (by rfl) 41 (.tmp 4) (.tmp 46) (by rfl) (w.heap.size+1) #[.int .i64 0,.int .i64 0,.bool false,.slice none 0 0,.string ⟨#[]⟩] (by rfl) (by rfl) _ _ (HB3.out _ HG2.out) HI5.out rfl (dr_one5 _ _ _ _ _ _ _) ?_;obtain ⟨w4,hw4⟩:∃ w4,w4=W2.setRow (w.heap.size+1) #[.int .i64 0,.int .i64 0,.bool false,.slice none 0 0,.string ⟨#[]⟩]:=⟨_,rfl⟩;rw[←hw4];have hb4:w4.heap[w.heap.size+1]?=some (.cells #[.int .i64 0,.int .i64 0,.bool false,.slice none 0 0,.string ⟨#[]⟩] 41 (0,0)):=(by rw[hw4];exact setRow_heap _ _ _ _ _ _ (HB3.out _ HG2.out));have HW4:=hid hw4;have HB4:=hid hb4;clear hw4 hb4)
  refine bodyPost_ret (v:=.tuple #[.agg #[.int .i64 0,.int .i64 0,.bool false,.slice none 0 0,.string ⟨#[]⟩],.int .i64 2]) ?_ rfl ?_
  ·exact results_rowT Tryz.results70 _ _ (w.heap.size+1) _ _ (0,0) _ _ rfl HB4.out Tryz.underlying41 rfl HI5.out rfl
  exact saidO_err HR.out (dr_grown HW2.out HG2.out HW4.out) _ _ _ _ _
 obtain ⟨rfl,hsb⟩:=ha hp
 rw[if_neg (by omega)] at hR
 have hv0:=hcell 0 hp
 rw[Nat.add_zero] at hv0
 have hx256:=hlt _ (Od.getD_mem hp)
 have hv1:W2.cell? ⟨sb,so,none⟩=some (.int .u8 ((b.getD 0 0:Nat):Int)):=by rw[World.cell?_of_block (hga.block sb hsb (by simp))];exact hv0
 rw[hW2] at hv1
 obtain ⟨n,hn⟩:∃ n,n=b.length:=⟨_,rfl⟩
 rw[←hn] at hR hp hvc ⊢
 generalize b.getD 0 0=x at *
 clear hga b0 b1 hs2 hW2 hn ha hcell hlt hv0
 by_cases h1:1<n
 ·rw[if_pos (.inl h1)] at hR
  have HR:=hid hR
  have h1i:(1:Int)<(n:Int):=by omega
  clear hR
  go_enter Tryz.func70,Tryz.ntmps70
  go_wp2_with (rw[←HW2.out];refine wpList_store_row (by rfl) 41 (.tmp 4) (.tmp 62) (by rfl) (w.heap.size+1) #[.int .i64 0,.int .i64 0,.bool false,.slice none 0 0,.string ⟨#[]⟩] (by rfl) (by rfl) _ _ (HB3.out _ HG2.out) HI5.out rfl (dr_one5 _ _ _ _ _ _ _) ?_;obtain ⟨w4,hw4⟩:∃ w4,w4=W2.setRow (w.heap.size+1) #[.int .i64 0,.int .i64 0,.bool false,.slice none 0 0,.string ⟨#[]⟩]:=⟨_,rfl⟩;rw[←hw4];have hb4:w4.heap[w.heap.size+1]?=some (.cells #[.int .i64 0,.int .i64 0,.bool false,.slice none 0 0,.string ⟨#[]⟩] 41 (0,0)):=(by rw[hw4];exact setRow_heap _ _ _ _ _ _ (HB3.out _ HG2.out));have HW4:=hid hw4;have HB4:=hid hb4;clear hw4 hb4)
  refine bodyPost_ret (v:=.tuple #[.agg #[.int .i64 0,.int .i64 0,.bool false,.slice none 0 0,.string ⟨#[]⟩],.int .i64 4]) ?_ rfl ?_
  ·exact results_rowT Tryz.results70 _ _ (w.heap.size+1) _ _ (0,0) _ _ rfl HB4.out Tryz.underlying41 rfl HI5.out rfl
  exact saidO_err HR.out (dr_grown HW2.out HG2.out HW4.out) _ _ _ _ _
 have h1i:¬ (1:Int)<(n:Int):=by omega
 obtain rfl:n=1:=by omega
 by_cases h2:x=0
 ·subst h2
  rw[if_neg (by omega)] at hR
  have HR:=hid hR
  clear hR
  rw[show ((0:Nat):Int)=0 from rfl] at hv1
  go_enter Tryz.func70,Tryz.ntmps70
  go_wp2_with (rw[←HW2.out];refine wpList_store_row (by rfl) 41 (.tmp 4) (.tmp 67) (by rfl) (w.heap.size+1) #[.int .i64 0,.int .i64 0,.bool false,.slice none 0 0,.string ⟨#[]⟩] (by rfl) (by rfl) _ _ (HB3.out _ HG2.out) HI5.out rfl (dr_one5 _ _ _ _ _ _ _) ?_;obtain ⟨w4,hw4⟩:∃ w4,w4=W2.setRow (w.heap.size+1) #[.int .i64 0,.int .i64 0,.bool false,.slice none 0 0,.string ⟨#[]⟩]:=⟨_,rfl⟩;rw[←hw4];have hb4:w4.heap[w.heap.size+1]?=some (.cells #[.int .i64 0,.int .i64 0,.bool false,.slice none 0 0,.string ⟨#[]⟩] 41 (0,0)):=(by rw[hw4];exact setRow_heap _ _ _ _ _ _ (HB3.out _ HG2.out));have HW4:=hid hw4;have HB4:=hid hb4;clear hw4 hb4)
  refine bodyPost_ret (v:=.tuple #[.agg #[.int .i64 0,.int .i64 0,.bool false,.slice none 0 0,.string ⟨#[]⟩],.int .i64 0]) ?_ rfl ?_
  ·exact results_rowT Tryz.results70 _ _ (w.heap.size+1) _ _ (0,0) _ _ rfl HB4.out Tryz.underlying41 rfl HI5.out rfl
  rw[HR.out]
  exact ⟨dr_grown HW2.out HG2.out HW4.out,_,_,_,_,_,_,rfl,fun x h=>by cases h;exact ⟨rfl,rfl,rfl,rfl,.inl ⟨rfl,rfl⟩⟩⟩
 by_cases h3:x=255
 ·subst h3
  rw[if_neg (by omega)] at hR
  have HR:=hid hR
  clear hR
  rw[show ((255:Nat):Int)=255 from rfl] at hv1
  go_enter Tryz.func70,Tryz.ntmps70
  go_wp2_with (rw[←HW2.out];refine wpList_store_row (by rfl) 41 (.tmp 4) (.tmp 67) (by rfl) (w.heap.size+1) #[.int .i64 0,.int .i64 0,.bool true,.slice none 0 0,.string ⟨#[]⟩] (by rfl) (by rfl) _ _ (HB3.out _ HG2.out) HI5.out rfl (dr_one5 _ _ _ _ _ _ _) ?_;obtain ⟨w4,hw4⟩:∃ w4,w4=W2.setRow (w.heap.size+1) #[.int .i64 0,.int .i64 0,.bool true,.slice none 0 0,.string ⟨#[]⟩]:=⟨_,rfl⟩;rw[←hw4];have hb4:w4.heap[w.heap.size+1]?=some (.cells #[.int .i64 0,.int .i64 0,.bool true,.slice none 0 0,.string ⟨#[]⟩] 41 (0,0)):=(by rw[hw4];exact setRow_heap _ _ _ _ _ _ (HB3.out _ HG2.out));have HW4:=hid hw4;have HB4:=hid hb4;clear hw4 hb4)
  refine bodyPost_ret (v:=.tuple #[.agg #[.int .i64 0,.int .i64 0,.bool true,.slice none 0 0,.string ⟨#[]⟩],.int .i64 0]) ?_ rfl ?_
  ·exact results_rowT Tryz.results70 _ _ (w.heap.size+1) _ _ (0,0) _ _ rfl HB4.out Tryz.underlying41 rfl HI5.out rfl
  rw[HR.out]
  exact ⟨dr_grown HW2.out HG2.out HW4.out,_,_,_,_,_,_,rfl,fun x h=>by cases h;exact ⟨rfl,rfl,rfl,rfl,.inl ⟨rfl,rfl⟩⟩⟩
 rw[if_pos (.inr ⟨h2,h3⟩)] at hR
 have HR:=hid hR
 have e2:((x:Int) != 0)=true:=by simp;omega
 have e3:((x:Int) != 255)=true:=by simp;omega
 clear hR h2 h3
 go_enter Tryz.func70,Tryz.ntmps70
 go_wp2_with (rw[←HW2.out];refine wpList_store_row (by rfl) 41 (.tmp 4) (.tmp 62) (by rfl) (w.heap.size+1) #[.int .i64 0,.int .i64 0,.bool false,.slice none 0 0,.string ⟨#[]⟩] (by rfl) (by rfl) _ _ (HB3.out _ HG2.out) HI5.out rfl (dr_one5 _ _ _ _ _ _ _) ?_;obtain ⟨w4,hw4⟩:∃ w4,w4=W2.setRow (w.heap.size+1) #[.int .i64 0,.int .i64 0,.bool false,.slice none 0 0,.string ⟨#[]⟩]:=⟨_,rfl⟩;rw[←hw4];have hb4:w4.heap[w.heap.size+1]?=some (.cells #[.int .i64 0,.int .i64 0,.bool false,.slice none 0 0,.string ⟨#[]⟩] 41 (0,0)):=(by rw[hw4];exact setRow_heap _ _ _ _ _ _ (HB3.out _ HG2.out));have HW4:=hid hw4;have HB4:=hid hb4;clear hw4 hb4)
 refine bodyPost_ret (v:=.tuple #[.agg #[.int .i64 0,.int .i64 0,.bool false,.slice none 0 0,.string ⟨#[]⟩],.int .i64 4]) ?_ rfl ?_
 ·exact results_rowT Tryz.results70 _ _ (w.heap.size+1) _ _ (0,0) _ _ rfl HB4.out Tryz.underlying41 rfl HI5.out rfl
 exact saidO_err HR.out (dr_grown HW2.out HG2.out HW4.out) _ _ _ _ _
theorem dr_arcs {b:List Nat} {l:List Int} (h:Od.get b=.ok l):l.length≤1000∧∀ n∈l,0≤n∧n≤2147483647:=by
 have hr:Od.right l=true:=by
  unfold Od.get at h
  split at h
  ·cases h
  ·cases h
  ·simp only at h
   split at h
   ·cases h;assumption
   ·cases h
 obtain ⟨⟨_,h2,_⟩,h3⟩:=(Od.right_iff l).1 hr
 exact ⟨by omega,h3⟩
theorem refSaid_8 {w:World} (v:Value) (b:List Nat) (tag least most:Int) (hbl:b.length≤100000) (hB:Bytes w v b) :
  Calls Tryz.prog 70 #[.agg #[.int .i64 8,.int .i64 tag,.int .i64 least,.int .i64 most],v] w fun e w'=>SaidO v b (De.said 8 least most b) w w' e:=by
 obtain ⟨R,hR⟩:∃ R,R=De.said 8 least most b:=⟨_,rfl⟩
 rw[←hR]
 unfold De.said at hR
 rw[if_neg (by decide),if_neg (by decide),if_neg (by decide),if_neg (by decide),if_pos rfl] at hR
 obtain ⟨W2,hW2⟩:∃ W2,W2=(w.alloc (.cells #[.int .i64 8,.int .i64 tag,.int .i64 least,.int .i64 most] 31)).alloc (.cells #[.int .i64 0,.int .i64 0,.bool false,.slice none 0 0,.string ⟨#[]⟩] 41):=⟨_,rfl⟩
 have hga:w.grownBy W2 none:=by rw[hW2];exact grown_alloc (World.grownBy_alloc _ _ _) _
 have b0:W2.heap[w.heap.size]?=some (.cells #[.int .i64 8,.int .i64 tag,.int .i64 least,.int .i64 most] 31 (0,0)):=by rw[hW2];exact alloc2_old _ _ _
 have b1:W2.heap[w.heap.size+1]?=some (.cells #[.int .i64 0,.int .i64 0,.bool false,.slice none 0 0,.string ⟨#[]⟩] 41 (0,0)):=by rw[hW2];exact alloc2_new _ _ _
 have hs2:W2.heap.size=w.heap.size+2:=by rw[hW2,alloc2_size]
 have HB3:Hid (∀ w3,W2.grownBy w3 none→w3.heap[w.heap.size+1]?=some (.cells #[.int .i64 0,.int .i64 0,.bool false,.slice none 0 0,.string ⟨#[]⟩] 41 (0,0))):=hid (fun w3 hg=>(hg.block _ (by omega) (by simp)).trans b1)
 have HA3:Hid (∀ w3,W2.grownBy w3 none→w3.heap[w.heap.size]?=some (.cells #[.int .i64 8,.int .i64 tag,.int .i64 least,.int .i64 most] 31 (0,0))):=hid (fun w3 hg=>(hg.block _ (by omega) (by simp)).trans b0)
 have HW2:=hid hW2
 have HI5:Hid ((Tryz.prog.info? 41).map (·.size)=some 5):=hid (by kernel_rfl)
 have hn:=refGet_any v b W2 (hB.grown hga) hbl
 have HG2:=hid (grown_refl W2 none)
 cases hw:Od.get b with
 |error k =>
  rw[hw] at hR hn
  simp only at hR
  have hk0:=oget_err hw
  have hk:((k:Nat):Int)≠0:=by omega
  have HN:Hid (Calls Tryz.prog 126 #[v] W2 fun e w'=>(∃ u,e=.returned (.tuple #[u,.int .i64 (k:Nat)]))∧W2.grownBy w' none):=hid (hn.mono (fun e w' h=>by
   obtain ⟨hg,u,he,_⟩:=h
   exact ⟨⟨u,he⟩,hg⟩))
  have HR:=hid hR
  have c0:=cell_blk (HA3.out _ HG2.out) 0 rfl
  rw[hW2] at c0
  clear hn hw hR hB hga b0 b1 hs2 hW2 hk0
  go_enter Tryz.func70,Tryz.ntmps70
  go_wp2_with (first
   |(go_at_call 126;rw[←HW2.out];refine HN.out.mono ?_;rintro e w3 ⟨⟨u,rfl⟩,hg3⟩;have HG3:=hid hg3;have d0:=cell_blk (HA3.out _ hg3) 0 rfl;have d2:=cell_blk (HA3.out _ hg3) 2 rfl;have d3:=cell_blk (HA3.out _ hg3) 3 rfl;clear hg3)
   |(refine wpList_store_row (by rfl) 41 (.tmp 4) (.tmp 103) (by rfl) (w.heap.size+1) #[.int .i64 0,.int .i64 0,.bool false,.slice none 0 0,.string ⟨#[]⟩] (by rfl) (by rfl) _ _ (HB3.out _ HG3.out) HI5.out rfl (dr_one5 _ _ _ _ _ _ _) ?_;obtain ⟨w4,hw4⟩:∃ w4,w4=w3.setRow (w.heap.size+1) #[.int .i64 0,.int .i64 0,.bool false,.slice none 0 0,.string ⟨#[]⟩]:=⟨_,rfl⟩;rw[←hw4];have hb4:w4.heap[w.heap.size+1]?=some (.cells #[.int .i64 0,.int .i64 0,.bool false,.slice none 0 0,.string ⟨#[]⟩] 41 (0,0)):=(by rw[hw4];exact setRow_heap _ _ _ _ _ _ (HB3.out _ HG3.out));have HW4:=hid hw4;have HB4:=hid hb4;clear hw4 hb4))
  refine bodyPost_ret (v:=.tuple #[.agg #[.int .i64 0,.int .i64 0,.bool false,.slice none 0 0,.string ⟨#[]⟩],.int .i64 (k:Nat)]) ?_ rfl ?_
  ·exact results_rowT Tryz.results70 _ _ (w.heap.size+1) _ _ (0,0) _ _ rfl HB4.out Tryz.underlying41 rfl HI5.out rfl
  exact saidO_err HR.out (dr_grown HW2.out HG3.out HW4.out) _ _ _ _ _
 |ok l =>
  rw[hw] at hR hn
  simp only at hR
  obtain ⟨hl1,hl2⟩:=dr_arcs hw
  have HN:Hid (Calls Tryz.prog 126 #[v] W2 fun e w'=>(∃ u,e=.returned (.tuple #[u,.int .i64 0])∧Ints w' u l)∧W2.grownBy w' none):=hid (hn.mono (fun e w' h=>by
   obtain ⟨hg,u,he,hi⟩:=h
   exact ⟨⟨u,he,hi l rfl⟩,hg⟩))
  have HT:Hid (∀ (u:Value) (W:World),Ints W u l→Calls Tryz.prog 127 #[u] W fun e w'=>e=.returned (.string (strOf (Od.text l)))∧W.grownBy w' none):=hid (fun u W h=>refOText_any u l W h hl1 hl2)
  have htx:Od.text l=strL (strOf (Od.text l)):=(strL_strOf (text_lt l hl2)).symm
  have HR:Hid (R=.ok { De.none0 with t:=strL (strOf (Od.text l)) }):=hid (by rw[←htx];exact hR)
  obtain ⟨S,hS⟩:∃ S,S=strOf (Od.text l):=⟨_,rfl⟩
  rw[←hS] at HT HR
  have c0:=cell_blk (HA3.out _ HG2.out) 0 rfl
  rw[hW2] at c0
  clear hn hw hR hB hga b0 b1 hs2 hW2 hl1 hl2 htx hS
  go_enter Tryz.func70,Tryz.ntmps70
  go_wp2_with (first
   |(go_at_call 126;rw[←HW2.out];refine HN.out.mono ?_;rintro e w2 ⟨⟨u,rfl,hi⟩,hg3⟩;have HG1:=hid hg3;have z0:=cell_blk (HA3.out _ hg3) 0 rfl;have z2:=cell_blk (HA3.out _ hg3) 2 rfl;have z3:=cell_blk (HA3.out _ hg3) 3 rfl;have HI:=hid hi;clear hg3 hi)
   |(go_at_call 127;refine (HT.out _ _ HI.out).mono ?_;rintro e w3 ⟨rfl,hg3⟩;have HG3:=hid (grown_trans HG1.out hg3);clear hg3)
   |(refine wpList_store_row (by rfl) 41 (.tmp 4) (.tmp 107) (by rfl) (w.heap.size+1) #[.int .i64 0,.int .i64 0,.bool false,.slice none 0 0,.string S] (by rfl) (by rfl) _ _ (HB3.out _ HG3.out) HI5.out rfl (dr_one5 _ _ _ _ _ _ _) ?_;obtain ⟨w4,hw4⟩:∃ w4,w4=w3.setRow (w.heap.size+1) #[.int .i64 0,.int .i64 0,.bool false,.slice none 0 0,.string S]:=⟨_,rfl⟩;rw[←hw4];have hb4:w4.heap[w.heap.size+1]?=some (.cells #[.int .i64 0,.int .i64 0,.bool false,.slice none 0 0,.string S] 41 (0,0)):=(by rw[hw4];exact setRow_heap _ _ _ _ _ _ (HB3.out _ HG3.out));have HW4:=hid hw4;have HB4:=hid hb4;clear hw4 hb4))
  refine bodyPost_ret (v:=.tuple #[.agg #[.int .i64 0,.int .i64 0,.bool false,.slice none 0 0,.string S],.int .i64 0]) ?_ rfl ?_
  ·exact results_rowT Tryz.results70 _ _ (w.heap.size+1) _ _ (0,0) _ _ rfl HB4.out Tryz.underlying41 rfl HI5.out rfl
  rw[HR.out]
  exact ⟨dr_grown HW2.out HG3.out HW4.out,_,_,_,_,_,_,rfl,fun x h=>by cases h;exact ⟨rfl,rfl,rfl,rfl,.inl ⟨rfl,rfl⟩⟩⟩
theorem dr_calget_err {l:List Nat} {k:Nat} (h:Cal.get l=.error k):k≠0:=by
 unfold Cal.get at h
 (repeat' split at h) <;> first|(cases h;decide)|cases h
theorem refSaid_9 {w:World} (v:Value) (b:List Nat) (tag least most:Int) (hB:Bytes w v b) :
  Calls Tryz.prog 70 #[.agg #[.int .i64 9,.int .i64 tag,.int .i64 least,.int .i64 most],v] w fun e w'=>SaidO v b (De.said 9 least most b) w w' e:=by
 obtain ⟨R,hR⟩:∃ R,R=De.said 9 least most b:=⟨_,rfl⟩
 rw[←hR]
 unfold De.said at hR
 rw[if_neg (by decide),if_neg (by decide),if_neg (by decide),if_neg (by decide),if_neg (by decide),if_pos rfl] at hR
 obtain ⟨W2,hW2⟩:∃ W2,W2=(w.alloc (.cells #[.int .i64 9,.int .i64 tag,.int .i64 least,.int .i64 most] 31)).alloc (.cells #[.int .i64 0,.int .i64 0,.bool false,.slice none 0 0,.string ⟨#[]⟩] 41):=⟨_,rfl⟩
 have hga:w.grownBy W2 none:=by rw[hW2];exact grown_alloc (World.grownBy_alloc _ _ _) _
 have b0:W2.heap[w.heap.size]?=some (.cells #[.int .i64 9,.int .i64 tag,.int .i64 least,.int .i64 most] 31 (0,0)):=by rw[hW2];exact alloc2_old _ _ _
 have b1:W2.heap[w.heap.size+1]?=some (.cells #[.int .i64 0,.int .i64 0,.bool false,.slice none 0 0,.string ⟨#[]⟩] 41 (0,0)):=by rw[hW2];exact alloc2_new _ _ _
 have hs2:W2.heap.size=w.heap.size+2:=by rw[hW2,alloc2_size]
 have HB3:Hid (∀ w3,W2.grownBy w3 none→w3.heap[w.heap.size+1]?=some (.cells #[.int .i64 0,.int .i64 0,.bool false,.slice none 0 0,.string ⟨#[]⟩] 41 (0,0))):=hid (fun w3 hg=>(hg.block _ (by omega) (by simp)).trans b1)
 have HA3:Hid (∀ w3,W2.grownBy w3 none→w3.heap[w.heap.size]?=some (.cells #[.int .i64 9,.int .i64 tag,.int .i64 least,.int .i64 most] 31 (0,0))):=hid (fun w3 hg=>(hg.block _ (by omega) (by simp)).trans b0)
 have HW2:=hid hW2
 have HI5:Hid ((Tryz.prog.info? 41).map (·.size)=some 5):=hid (by kernel_rfl)
 have hn:=refMGet_any v b W2 (hB.grown hga)
 have HG2:=hid (grown_refl W2 none)
 cases hw:Cal.get b with
 |error k =>
  rw[hw] at hR hn
  simp only at hR
  have HN:Hid (Calls Tryz.prog 128 #[v] W2 fun e w'=>e=.returned (.tuple #[.int .i64 0,.int .i64 (k:Nat)])∧W2.grownBy w' none):=hid (hn.mono (fun e w' h=>⟨by rw[h.1];rfl,h.2⟩))
  have HR:=hid hR
  have c0:=cell_blk (HA3.out _ HG2.out) 0 rfl
  rw[hW2] at c0
  clear hn hw hR hB hga b0 b1 hs2 hW2
  go_enter Tryz.func70,Tryz.ntmps70
  go_wp2_with (first
   |(go_at_call 128;rw[←HW2.out];refine HN.out.mono ?_;rintro e w3 ⟨rfl,hg3⟩;have HG3:=hid hg3;have d0:=cell_blk (HA3.out _ hg3) 0 rfl;have d2:=cell_blk (HA3.out _ hg3) 2 rfl;have d3:=cell_blk (HA3.out _ hg3) 3 rfl;clear hg3)
   |(refine wpList_store_row (by rfl) 41 (.tmp 4) (.tmp 116) (by rfl) (w.heap.size+1) #[.int .i64 0,.int .i64 0,.bool false,.slice none 0 0,.string ⟨#[]⟩] (by rfl) (by rfl) _ _ (HB3.out _ HG3.out) HI5.out rfl (dr_one5 _ _ _ _ _ _ _) ?_;obtain ⟨w4,hw4⟩:∃ w4,w4=w3.setRow (w.heap.size+1) #[.int .i64 0,.int .i64 0,.bool false,.slice none 0 0,.string ⟨#[]⟩]:=⟨_,rfl⟩;rw[←hw4];have hb4:w4.heap[w.heap.size+1]?=some (.cells #[.int .i64 0,.int .i64 0,.bool false,.slice none 0 0,.string ⟨#[]⟩] 41 (0,0)):=(by rw[hw4];exact setRow_heap _ _ _ _ _ _ (HB3.out _ HG3.out));have HW4:=hid hw4;have HB4:=hid hb4;clear hw4 hb4))
  refine bodyPost_ret (v:=.tuple #[.agg #[.int .i64 0,.int .i64 0,.bool false,.slice none 0 0,.string ⟨#[]⟩],.int .i64 (k:Nat)]) ?_ rfl ?_
  ·exact results_rowT Tryz.results70 _ _ (w.heap.size+1) _ _ (0,0) _ _ rfl HB4.out Tryz.underlying41 rfl HI5.out rfl
  exact saidO_err HR.out (dr_grown HW2.out HG3.out HW4.out) _ _ _ _ _
 |ok n =>
  rw[hw] at hR hn
  simp only at hR
  have HN:Hid (Calls Tryz.prog 128 #[v] W2 fun e w'=>e=.returned (.tuple #[.int .i64 (n:Int),.int .i64 0])∧W2.grownBy w' none):=hid (hn.mono (fun e w' h=>⟨by rw[h.1];rfl,h.2⟩))
  have HR:=hid hR
  have c0:=cell_blk (HA3.out _ HG2.out) 0 rfl
  rw[hW2] at c0
  clear hn hw hR hB hga b0 b1 hs2 hW2
  go_enter Tryz.func70,Tryz.ntmps70
  go_wp2_with (first
   |(go_at_call 128;rw[←HW2.out];refine HN.out.mono ?_;rintro e w3 ⟨rfl,hg3⟩;have HG3:=hid hg3;have d0:=cell_blk (HA3.out _ hg3) 0 rfl;have d2:=cell_blk (HA3.out _ hg3) 2 rfl;have d3:=cell_blk (HA3.out _ hg3) 3 rfl;clear hg3)
   |(refine wpList_store_row (by rfl) 41 (.tmp 4) (.tmp 116) (by rfl) (w.heap.size+1) #[.int .i64 0,.int .i64 (n:Int),.bool false,.slice none 0 0,.string ⟨#[]⟩] (by rfl) (by rfl) _ _ (HB3.out _ HG3.out) HI5.out rfl (dr_one5 _ _ _ _ _ _ _) ?_;obtain ⟨w4,hw4⟩:∃ w4,w4=w3.setRow (w.heap.size+1) #[.int .i64 0,.int .i64 (n:Int),.bool false,.slice none 0 0,.string ⟨#[]⟩]:=⟨_,rfl⟩;rw[←hw4];have hb4:w4.heap[w.heap.size+1]?=some (.cells #[.int .i64 0,.int .i64 (n:Int),.bool false,.slice none 0 0,.string ⟨#[]⟩] 41 (0,0)):=(by rw[hw4];exact setRow_heap _ _ _ _ _ _ (HB3.out _ HG3.out));have HW4:=hid hw4;have HB4:=hid hb4;clear hw4 hb4))
  refine bodyPost_ret (v:=.tuple #[.agg #[.int .i64 0,.int .i64 (n:Int),.bool false,.slice none 0 0,.string ⟨#[]⟩],.int .i64 0]) ?_ rfl ?_
  ·exact results_rowT Tryz.results70 _ _ (w.heap.size+1) _ _ (0,0) _ _ rfl HB4.out Tryz.underlying41 rfl HI5.out rfl
  rw[HR.out]
  exact ⟨dr_grown HW2.out HG3.out HW4.out,_,_,_,_,_,_,rfl,fun x h=>by cases h;exact ⟨rfl,rfl,rfl,rfl,.inl ⟨rfl,rfl⟩⟩⟩
theorem refSaid_10 {w:World} (v:Value) (b:List Nat) (kk tag least most:Int) (hbl:b.length≤1000) (h3:kk≠3) (h4:kk≠4) (h5:kk≠5) (h6:kk≠6) (h7:kk≠7) (h8:kk≠8) (h9:kk≠9) (hB:Bytes w v b) :
  Calls Tryz.prog 70 #[.agg #[.int .i64 kk,.int .i64 tag,.int .i64 least,.int .i64 most],v] w fun e w'=>SaidO v b (De.said kk least most b) w w' e:=by
 obtain ⟨R,hR⟩:∃ R,R=De.said kk least most b:=⟨_,rfl⟩
 rw[←hR]
 unfold De.said at hR
 rw[if_neg (by omega),if_neg h5,if_neg h6,if_neg h7,if_neg h8,if_neg h9] at hR
 obtain ⟨W2,hW2⟩:∃ W2,W2=(w.alloc (.cells #[.int .i64 kk,.int .i64 tag,.int .i64 least,.int .i64 most] 31)).alloc (.cells #[.int .i64 0,.int .i64 0,.bool false,.slice none 0 0,.string ⟨#[]⟩] 41):=⟨_,rfl⟩
 have hga:w.grownBy W2 none:=by rw[hW2];exact grown_alloc (World.grownBy_alloc _ _ _) _
 have b0:W2.heap[w.heap.size]?=some (.cells #[.int .i64 kk,.int .i64 tag,.int .i64 least,.int .i64 most] 31 (0,0)):=by rw[hW2];exact alloc2_old _ _ _
 have b1:W2.heap[w.heap.size+1]?=some (.cells #[.int .i64 0,.int .i64 0,.bool false,.slice none 0 0,.string ⟨#[]⟩] 41 (0,0)):=by rw[hW2];exact alloc2_new _ _ _
 have hs2:W2.heap.size=w.heap.size+2:=by rw[hW2,alloc2_size]
 have HB3:Hid (∀ w3,W2.grownBy w3 none→w3.heap[w.heap.size+1]?=some (.cells #[.int .i64 0,.int .i64 0,.bool false,.slice none 0 0,.string ⟨#[]⟩] 41 (0,0))):=hid (fun w3 hg=>(hg.block _ (by omega) (by simp)).trans b1)
 have HA3:Hid (∀ w3,W2.grownBy w3 none→w3.heap[w.heap.size]?=some (.cells #[.int .i64 kk,.int .i64 tag,.int .i64 least,.int .i64 most] 31 (0,0))):=hid (fun w3 hg=>(hg.block _ (by omega) (by simp)).trans b0)
 have HW2:=hid hW2
 have HI5:Hid ((Tryz.prog.info? 41).map (·.size)=some 5):=hid (by kernel_rfl)
 have e3:((kk:Int)==3)=false:=by simpa using h3
 have e4:((kk:Int)==4)=false:=by simpa using h4
 have e5:((kk:Int)==5)=false:=by simpa using h5
 have e6:((kk:Int)==6)=false:=by simpa using h6
 have e7:((kk:Int)==7)=false:=by simpa using h7
 have e8:((kk:Int)==8)=false:=by simpa using h8
 have e9:((kk:Int)==9)=false:=by simpa using h9
 clear h3 h4 h5 h6 h7 h8 h9
 have hn:=refMask_any v b W2 (hB.grown hga) hbl
 have HG2:=hid (grown_refl W2 none)
 cases hw:Pt.mask b with
 |error k =>
  rw[hw] at hR hn
  simp only at hR
  have HN:Hid (Calls Tryz.prog 129 #[v] W2 fun e w'=>e=.returned (.tuple #[.int .i64 0,.int .i64 (k:Nat)])∧W2.grownBy w' none):=hid (hn.mono (fun e w' h=>⟨by rw[h.1];rfl,by rw[h.2];exact grown_refl _ _⟩))
  have HR:=hid hR
  have c0:=cell_blk (HA3.out _ HG2.out) 0 rfl
  rw[hW2] at c0
  clear hn hw hR hB hga b0 b1 hs2 hW2
  go_enter Tryz.func70,Tryz.ntmps70
  go_wp2_with (first
   |(go_at_call 129;rw[←HW2.out];refine HN.out.mono ?_;rintro e w3 ⟨rfl,hg3⟩;have HG3:=hid hg3;have d0:=cell_blk (HA3.out _ hg3) 0 rfl;have d2:=cell_blk (HA3.out _ hg3) 2 rfl;have d3:=cell_blk (HA3.out _ hg3) 3 rfl;clear hg3)
   |(refine wpList_store_row (by rfl) 41 (.tmp 4) (.tmp 124) (by rfl) (w.heap.size+1) #[.int .i64 0,.int .i64 0,.bool false,.slice none 0 0,.string ⟨#[]⟩] (by rfl) (by rfl) _ _ (HB3.out _ HG3.out) HI5.out rfl (dr_one5 _ _ _ _ _ _ _) ?_;obtain ⟨w4,hw4⟩:∃ w4,w4=w3.setRow (w.heap.size+1) #[.int .i64 0,.int .i64 0,.bool false,.slice none 0 0,.string ⟨#[]⟩]:=⟨_,rfl⟩;rw[←hw4];have hb4:w4.heap[w.heap.size+1]?=some (.cells #[.int .i64 0,.int .i64 0,.bool false,.slice none 0 0,.string ⟨#[]⟩] 41 (0,0)):=(by rw[hw4];exact setRow_heap _ _ _ _ _ _ (HB3.out _ HG3.out));have HW4:=hid hw4;have HB4:=hid hb4;clear hw4 hb4))
  refine bodyPost_ret (v:=.tuple #[.agg #[.int .i64 0,.int .i64 0,.bool false,.slice none 0 0,.string ⟨#[]⟩],.int .i64 (k:Nat)]) ?_ rfl ?_
  ·exact results_rowT Tryz.results70 _ _ (w.heap.size+1) _ _ (0,0) _ _ rfl HB4.out Tryz.underlying41 rfl HI5.out rfl
  exact saidO_err HR.out (dr_grown HW2.out HG3.out HW4.out) _ _ _ _ _
 |ok n =>
  rw[hw] at hR hn
  simp only at hR
  have HN:Hid (Calls Tryz.prog 129 #[v] W2 fun e w'=>e=.returned (.tuple #[.int .i64 (n:Int),.int .i64 0])∧W2.grownBy w' none):=hid (hn.mono (fun e w' h=>⟨by rw[h.1];rfl,by rw[h.2];exact grown_refl _ _⟩))
  have HR:=hid hR
  have c0:=cell_blk (HA3.out _ HG2.out) 0 rfl
  rw[hW2] at c0
  clear hn hw hR hB hga b0 b1 hs2 hW2
  go_enter Tryz.func70,Tryz.ntmps70
  go_wp2_with (first
   |(go_at_call 129;rw[←HW2.out];refine HN.out.mono ?_;rintro e w3 ⟨rfl,hg3⟩;have HG3:=hid hg3;have d0:=cell_blk (HA3.out _ hg3) 0 rfl;have d2:=cell_blk (HA3.out _ hg3) 2 rfl;have d3:=cell_blk (HA3.out _ hg3) 3 rfl;clear hg3)
   |(refine wpList_store_row (by rfl) 41 (.tmp 4) (.tmp 124) (by rfl) (w.heap.size+1) #[.int .i64 0,.int .i64 (n:Int),.bool false,.slice none 0 0,.string ⟨#[]⟩] (by rfl) (by rfl) _ _ (HB3.out _ HG3.out) HI5.out rfl (dr_one5 _ _ _ _ _ _ _) ?_;obtain ⟨w4,hw4⟩:∃ w4,w4=w3.setRow (w.heap.size+1) #[.int .i64 0,.int .i64 (n:Int),.bool false,.slice none 0 0,.string ⟨#[]⟩]:=⟨_,rfl⟩;rw[←hw4];have hb4:w4.heap[w.heap.size+1]?=some (.cells #[.int .i64 0,.int .i64 (n:Int),.bool false,.slice none 0 0,.string ⟨#[]⟩] 41 (0,0)):=(by rw[hw4];exact setRow_heap _ _ _ _ _ _ (HB3.out _ HG3.out));have HW4:=hid hw4;have HB4:=hid hb4;clear hw4 hb4))
  refine bodyPost_ret (v:=.tuple #[.agg #[.int .i64 0,.int .i64 (n:Int),.bool false,.slice none 0 0,.string ⟨#[]⟩],.int .i64 0]) ?_ rfl ?_
  ·exact results_rowT Tryz.results70 _ _ (w.heap.size+1) _ _ (0,0) _ _ rfl HB4.out Tryz.underlying41 rfl HI5.out rfl
  rw[HR.out]
  exact ⟨dr_grown HW2.out HG3.out HW4.out,_,_,_,_,_,_,rfl,fun x h=>by cases h;exact ⟨rfl,rfl,rfl,rfl,.inl ⟨rfl,rfl⟩⟩⟩
end Go.Proofs.YtndkifkhdollgaaGreatDoor
