import Derived.Test.YtjjbkpjjmbfdhaaGreatDoorZb01
import Derived.Deep.Quiet
import Derived.Deep.QuietTactic
import Derived.BigQuiet
import Derived.StillTail
import Derived.KernelRfl
import Derived.Deep.MidRow
import Derived.WalkKit
import Derived.Laws.StructEq
set_option linter.unusedVariables false
set_option linter.unusedSimpArgs false
namespace Go.Proofs.YtjjbkpjjmbfdhaaGreatDoor
open Go
section
variable {P:Program} {ops:Array Oper} {md:Region.Mode} {C:World→Prop}
def headQ (P:Program) (md:Region.Mode) (ops:Array Oper) (C:World→Prop) (n:Nat) (L:Array Bool→Act→Prop):Nat→Array Bool→Act→Prop
 |0,listed,a=>L listed a
 |f+1,listed,a=>Region.ready md ops listed≠[]∧∀ i∈Region.ready md ops listed,i<n∧qOp P ops C i (headQ P md ops C n L f (listed.setIfInBounds i true)) a
theorem any_of_headQ {n g:Nat} {L:Array Bool→Act→Prop} {Q':Exit→Act→World→Prop} (hL:∀ listed a w,C w→L listed a→wpAny P md ops Q' g listed a w)
  (f:Nat):∀ (listed:Array Bool) (a:Act) (w:World),C w→headQ P md ops C n L f listed a→wpAny P md ops Q' (f+g) listed a w:=by
 induction f with
 |zero=>intro listed a w hw h;rw[Nat.zero_add];exact hL _ _ _ hw h
 |succ f ih =>
  intro listed a w hw h
  rw[show f+1+g=(f+g)+1 by omega]
  exact ⟨fun h0=>absurd h0 h.1,fun i hi=>wpOp_of_qOp hw (fun a' w' hw' h'=>ih _ a' w' hw' h') (h.2 i hi).2⟩
theorem headQ_first {n i:Nat} {oi:Oper} {v:Value} {L:Array Bool→Act→Prop} (hi:ops[i]?=some oi) (hsel:∀ (j:Nat) (o:Oper) cs b,ops[j]?=some o→o.op≠.select cs b)
  (hs:Region.sinkB md ops n=true) (hc:Region.chainB md ops n=true) (hn:n<ops.size) (hin:i<n)
  (hdone:∀ listed a,L listed a→∀ j∈Region.ready md ops listed,n≤j) (f:Nat) :
  ∀ (listed:Array Bool) (a:Act),HeadInv md ops n listed →
   (∀ j oj,ops[j]?=some oj→j≠i→listed.getD j true=false→(∀ e∈oj.after,Region.binds md e=true→e.on≠i)→oi.apart ops oj=true) →
   i∈Region.ready md ops listed→YieldsIn P ops C oi v a →
   headQ P md ops C n L f (listed.setIfInBounds i true) (a.put oi.dst v)→headQ P md ops C n L (f+1) listed a:=by
 have below:∀ (listed:Array Bool),HeadInv md ops n listed→i∈Region.ready md ops listed→∀ j∈Region.ready md ops listed,j<n:=fun listed inv hr j hj=>by
  rcases Nat.lt_or_ge j n with h|h
  ·exact h
  ·exact absurd hj (tail_waits hs hc hn inv _ i rfl hin (mem_ready.1 hr).1 j h)
 induction f with
 |zero =>
  intro listed a inv _ hr hy H
  refine ⟨fun h=>(by rw[h] at hr;cases hr),fun j hj=>⟨below listed inv hr j hj,?_⟩⟩
  by_cases hji:j=i
  ·subst hji;exact hy.qOp hi H
  ·have:=hdone _ _ H j (ready_mono hj hji)
   have:=below listed inv hr j hj
   omega
 |succ f ih =>
  intro listed a inv hfree hr hy H
  refine ⟨fun h=>(by rw[h] at hr;cases hr),fun j hj=>⟨below listed inv hr j hj,?_⟩⟩
  have hjn:=below listed inv hr j hj
  by_cases hji:j=i
  ·subst hji;exact hy.qOp hi H
  ·obtain ⟨hjun,oj,hoj,hall⟩:=mem_ready.1 hj
   have hnot:∀ e∈oj.after,Region.binds md e=true→e.on≠i:=fun e he hb heq=>by
    have h1:=hall e he hb
    rw[heq,getD_both (mem_ready.1 hr).1] at h1
    cases h1
   refine qOp_mono (fun a' h3=>ih (listed.setIfInBounds j true) a' (inv.set hj hjn) (fun k ok hk hki hun hno=>?_) (ready_mono hr (Ne.symm hji)) h3.1 ?_)
    (qOp_put hoj (hfree j oj hoj hji hjun hnot) (fun cs b=>hsel i oi cs b hi) (fun cs b=>hsel j oj cs b hoj) hy (H.2 j (ready_mono hj hji)).2)
   ·refine hfree k ok hk hki ?_ hno
    by_cases hjk:j=k
    ·subst hjk;exact hjun
    ·rw[getD_set_ne true hjk] at hun;exact hun
   ·rw[Array.setIfInBounds_comm _ _ hji]
    exact h3.2
theorem headQ_lex {n g:Nat} {Lq:Act→Prop} (hsel:Region.noSelect ops=true) (hs:Region.sinkB md ops n=true) (hc:Region.chainB md ops n=true) (hn:n<ops.size) (l:List Oper) :
  ∀ (k:Nat) (listed:Array Bool) (a:Act),(∀ j,j<l.length→l[j]?=ops[k+j]?)→k+l.length=n→HeadInv md ops n listed →
  Region.lexHead md ops g l.length k listed=true→wpQuiet P ops C Lq l a →
  headQ P md ops C n (fun listed' a'=>Region.seqB md ops g n listed'=true∧Lq a') l.length listed a:=by
 induction l with
 |nil =>
  intro k listed a _ hk _ hB h
  obtain rfl:k=n:=by simpa using hk
  exact ⟨by simpa [Region.lexHead] using hB,h⟩
 |cons o l ih =>
  intro k listed a hl hk inv hB h
  have h0:ops[k]?=some o:=by simpa using (hl 0 (by simp)).symm
  simp only[List.length_cons,Region.lexHead,Bool.and_eq_true] at hB
  obtain ⟨⟨hr,hf⟩,hB'⟩:=hB
  have hkn:k<n:=by simp only[List.length_cons] at hk;omega
  have hr':k∈Region.ready md ops listed:=by simpa using hr
  obtain ⟨v,hy,hK⟩:=yieldsIn_of_qOp h0 (show qOp P ops C k (wpQuiet P ops C Lq l) a by unfold qOp;simp only[h0];exact h)
  exact headQ_first h0 (Region.noSelect_spec hsel) hs hc hn hkn (fun listed' a' hL=>seqB_ready hL.1) l.length listed a inv (Region.free_spec h0 hf) hr' hy
   (ih (k+1) _ _ (fun j hj=>by have:=hl (j+1) (by simp;omega);simpa [Nat.add_assoc,Nat.add_comm 1 j] using this) (by simp only[List.length_cons] at hk;omega) (inv.set hr' hkn) hB' hK)
theorem wp_region_quiet_tail {id:Nat} {Q:Exit→Act→World→Prop} {a:Act} {w:World} {l:List Oper} (C:World→Prop) (n:Nat) (hm:P.follows .mixedOrders=true) (hB:Region.lexTailB .any l.toArray n=true)
  (hC:C { w with drawn:=w.drawn+1 })
  (h:wpQuiet P l.toArray C (fun a'=>∀ w',C w'→wpList P l.toArray Q (l.drop n) a' w') (l.take n) a):(Code.region id l.toArray true).wp P Q a w:=by
 simp only[Region.lexTailB,Bool.and_eq_true,decide_eq_true_eq] at hB
 obtain ⟨⟨⟨⟨hsel,hn⟩,hs⟩,hc⟩,hlex⟩:=hB
 have hn':n<l.length:=by simpa using hn
 have htl:(l.take n).length=n:=by simp;omega
 have hdl:(l.drop n).length=l.toArray.size-n:=by simp
 have inv0:HeadInv .any l.toArray n (Array.replicate l.toArray.size false) :=
  ⟨by simp,fun j oj _ hl=>(by rw[getD_replicate_false] at hl;cases hl),fun t _ ht=>getD_in (by simpa using ht) (getD_replicate_false _ _)⟩
 have H:=headQ_lex (md:=.any) (g:=l.toArray.size-n) hsel hs hc hn (l.take n) 0 _ a (fun j hj=>by
  have hj':j<n:=by rw[htl] at hj;exact hj
  simp[hj']) (by simpa using htl) inv0 (by rw[htl];exact hlex) h
 refine wp_region_any hm ?_
 have:=any_of_headQ (Q':=Q) (g:=l.toArray.size-n) (fun listed a' w' hw' hL=>by
  have:=wpAny_of_seq (md:=.any) (Q':=Q) (l.drop n) n listed a' w' (fun j=>by simp[List.getElem?_drop]) (by rw[hdl];exact hL.1) (hL.2 w' hw')
  rwa [hdl] at this) _ _ _ _ hC H
 rw[htl,show n+(l.toArray.size-n)=l.toArray.size by omega] at this
 exact this
theorem wpQuiet_call {Q:Act→Prop} {a:Act} {o:Oper} {rest:List Oper} (hgd:o.guard=none) (f:FuncId) (args:Array Value) (v:Value)
  (hr:∀ w,(execOp a.eval o).run P w=.ok (.enter f args) w)
  (hc:∀ w,C w→Calls P f args w fun e w'=>e=.returned v∧C w')
  (h:wpQuiet P ops C Q rest (a.put o.dst v)):wpQuiet P ops C Q (o :: rest) a :=
 wpQuiet_step fun K hK=>by
  simp only[Region.wanted,hgd,if_true]
  refine ⟨v,fun w hw=>?_,hK _ h⟩
  unfold Oper.quietAt
  rw[hr w]
  exact ⟨rfl,hc w hw⟩
end
section
variable {P:Program} {ops:Array Oper} {md:Region.Mode}
def fill (a0:Act) (D:List Nat) (us:Nat→Value):Act:=⟨(a0.tmps.toList.mapIdx fun k v=>if D.contains k then us k else v).toArray,a0.defers⟩
theorem fill_start (a0:Act) (D:List Nat):fill a0 D (fun k=>a0.tmps.getD k undef)=a0:=by
 obtain ⟨⟨l⟩,d⟩:=a0
 unfold fill
 congr 1
 congr 1
 refine List.ext_getElem (by simp) fun i h1 h2=>?_
 simp only[List.getElem_mapIdx]
 split
 ·simp[h2]
 ·rfl
theorem fill_put {a0:Act} {D:List Nat} {us:Nat→Value} {d:Nat} (hd:D.contains d=true) (v:Value):(fill a0 D us).put (some d) v=fill a0 D (fun k=>if k=d then v else us k):=by
 obtain ⟨⟨l⟩,e⟩:=a0
 show (⟨((l.mapIdx fun k x=>if D.contains k then us k else x).toArray).setIfInBounds d v,e⟩:Act)=⟨(l.mapIdx fun k x=>if D.contains k then (if k=d then v else us k) else x).toArray,e⟩
 congr 1
 rw[List.setIfInBounds_toArray]
 congr 1
 refine List.ext_getElem (by simp only[List.length_set,List.length_mapIdx]) fun i h1 h2=>?_
 simp only[List.getElem_set,List.getElem_mapIdx]
 by_cases hi:d=i
 ·subst hi
  rw[if_pos rfl,if_pos hd,if_pos rfl]
 ·rw[if_neg hi]
  by_cases hc:D.contains i=true
  ·rw[if_pos hc,if_pos hc,if_neg (fun e=>hi e.symm)]
  ·rw[if_neg hc,if_neg hc]
def dstOf (ops:Array Oper) (j:Nat):Nat:=((ops[j]?).bind (·.dst)).getD 0
def depsOf (md:Region.Mode) (o:Oper):List Nat:=(o.after.toList.filter fun e=>Region.binds md e).map (·.on)
def headListed (n size:Nat):Array Bool:=((List.range size).map fun j=>decide (j<n)).toArray
def flowB (md:Region.Mode) (ops:Array Oper) (n:Nat) (D:List Nat):Bool :=
 decide (n<ops.size)&&Region.sinkB md ops n&&Region.chainB md ops n &&
 ((List.range n).all fun j=>match ops[j]? with
  |some o=>(match o.dst with|some d=>D.contains d|none=>false)&&(depsOf md o).all (· < j)
  |none=>false) &&
 decide ((List.range n).map (dstOf ops)).Nodup&&Region.seqB md ops (ops.size-n) n (headListed n ops.size)
def FlowAt (P:Program) (md:Region.Mode) (ops:Array Oper) (C:World→Prop) (S:World→World→Prop) (F:Nat→Value→World→Prop) (a0:Act) (D:List Nat) (j:Nat) (o:Oper):Prop :=
 ∀ (us:Nat→Value) (w:World),C w→(∀ k,k∈depsOf md o→F k (us (dstOf ops k)) w) →
  ∀ Q:Exit→Act→World→Prop,(∀ v w',S w w'→F j v w'→Q .normal ((fill a0 D us).put o.dst v) w')→wpList P ops Q [o] (fill a0 D us) w
def FlowAll (P:Program) (md:Region.Mode) (ops:Array Oper) (C:World→Prop) (S:World→World→Prop) (F:Nat→Value→World→Prop) (a0:Act) (D:List Nat):Nat→List Oper→Prop
 |_,[]=>True
 |j,o :: r=>FlowAt P md ops C S F a0 D j o∧FlowAll P md ops C S F a0 D (j+1) r
theorem upon_with (o:Oper) (a:Act) (K:Act→World→Prop) (Q:Exit→Act→World→Prop) (r:Result Next) :
  o.upon P a K (fun ex a w=>match ex with | .normal=>K a w|e=>Q e a w) r=o.upon P a K Q r:=by
 cases r with
 |ok n w=>cases n <;> rfl
 |halt x w=>cases x <;> rfl
theorem wpOp_of_list {o:Oper} {j:Nat} {a:Act} {w:World} {K:Act→World→Prop} {Q:Exit→Act→World→Prop} (ho:ops[j]?=some o)
  (h:wpList P ops (fun ex a w=>match ex with | .normal=>K a w|e=>Q e a w) [o] a w):wpOp P ops Q j K a w:=by
 unfold wpOp
 rw[ho]
 simp only[wpList] at h
 unfold Oper.wp at h
 rw[upon_with] at h
 exact h
theorem countP_set {p p':Nat→Bool} {i:Nat}:∀ {l:List Nat},l.Nodup→i∈l→p i=true→p' i=false→(∀ k,k≠i→p' k=p k)→l.countP p'+1=l.countP p
 |[],_,h,_,_,_=>by cases h
 |x :: l,hn,hi,h1,h2,h3=>by
  obtain ⟨hx,hl⟩:=List.nodup_cons.1 hn
  by_cases hxi:x=i
  ·subst hxi
   have e:l.countP p'=l.countP p:=List.countP_congr fun k hk=>by rw[h3 k (fun e=>hx (e ▸ hk))]
   rw[List.countP_cons_of_neg (by rw[h2];simp),List.countP_cons_of_pos h1,e]
  ·have hil:i∈l:=by
    rcases List.mem_cons.1 hi with h|h
    ·exact absurd h.symm hxi
    ·exact h
   have ih:=countP_set hl hil h1 h2 h3
   cases hp:p x
   ·rw[List.countP_cons_of_neg (by rw[h3 x hxi,hp];simp),List.countP_cons_of_neg (by rw[hp];simp)];exact ih
   ·rw[List.countP_cons_of_pos (by rw[h3 x hxi];exact hp),List.countP_cons_of_pos hp,←ih]
def unl' (listed:Array Bool) (j:Nat):Bool:=!listed.getD j true
theorem any_of_flow {C:World→Prop} {S:World→World→Prop} {F:Nat→Value→World→Prop} {a0:Act} {D:List Nat} {n:Nat} {Q:Exit→Act→World→Prop}
  (hs:Region.sinkB md ops n=true) (hc:Region.chainB md ops n=true) (hn:n<ops.size)
  (hd:∀ j o,j<n→ops[j]?=some o→(∃ d,o.dst=some d∧D.contains d=true)∧∀ k∈depsOf md o,k<j)
  (hnd:∀ i j,i<n→j<n→dstOf ops i=dstOf ops j→i=j)
  (hSC:∀ w w',S w w'→C w→C w') (hSF:∀ j v w w',S w w'→F j v w→F j v w')
  (hobl:∀ j o,j<n→ops[j]?=some o→FlowAt P md ops C S F a0 D j o)
  (htail:∀ us w listed,HeadInv md ops n listed→(∀ j,j<n→listed.getD j true=true)→C w→(∀ j,j<n→F j (us (dstOf ops j)) w)→wpAny P md ops Q (ops.size-n) listed (fill a0 D us) w) :
  ∀ (f:Nat) (listed:Array Bool) (us:Nat→Value) (w:World),HeadInv md ops n listed→(List.range n).countP (unl' listed)=f→C w →
   (∀ j,j<n→listed.getD j true=true→F j (us (dstOf ops j)) w)→wpAny P md ops Q (f+(ops.size-n)) listed (fill a0 D us) w
 |0,listed,us,w,inv,hf,hC,hF=>by
  rw[Nat.zero_add]
  have hall:∀ j,j<n→listed.getD j true=true:=fun j hj=>by
   have:=List.countP_eq_zero.1 hf j (List.mem_range.2 hj)
   simpa [unl'] using this
  exact htail us w listed inv hall hC (fun j hj=>hF j hj (hall j hj))
 |f+1,listed,us,w,inv,hf,hC,hF=>by
  rw[show f+1+(ops.size-n)=(f+(ops.size-n))+1 by omega]
  have hex:∃ j,j<n∧listed.getD j true=false:=by
   have:0<(List.range n).countP (unl' listed):=by omega
   obtain ⟨j,hj,hu⟩:=List.countP_pos_iff.1 this
   exact ⟨j,List.mem_range.1 hj,by simpa [unl'] using hu⟩
  have below:∀ j∈Region.ready md ops listed,j<n:=fun j hj=>by
   obtain ⟨i,hi,hu⟩:=hex
   rcases Nat.lt_or_ge j n with h|h
   ·exact h
   ·exact absurd hj (tail_waits hs hc hn inv _ i rfl hi hu j h)
  refine ⟨fun h0=>?_,fun j hj=>?_⟩
  ·have hmin:∀ m j,j=m→j<n→listed.getD j true=false→False:=by
    intro m
    induction m using Nat.strongRecOn with
    |_ m ih =>
     rintro j rfl hj hu
     obtain ⟨o,ho⟩:∃ o,ops[j]?=some o:=⟨_,Array.getElem?_eq_getElem (by omega)⟩
     have hr:j∈Region.ready md ops listed:=mem_ready.2 ⟨hu,o,ho,fun e he hb=>by
      have hk:=(hd j o hj ho).2 e.on (List.mem_map.2 ⟨e,List.mem_filter.2 ⟨by simpa using he,hb⟩,rfl⟩)
      cases hl:listed.getD e.on true with
      |false=>exact (ih e.on hk e.on rfl (by omega) hl).elim
      |true =>
       have hsz:e.on<listed.size:=by rw[inv.size];omega
       simp[hsz] at hl ⊢
       exact hl⟩
     rw[h0] at hr
     cases hr
   obtain ⟨j,hj,hu⟩:=hex
   exact (hmin j j rfl hj hu).elim
  ·have hjn:=below j hj
   obtain ⟨hun,o,ho,hall⟩:=mem_ready.1 hj
   obtain ⟨⟨d,hdd,hDd⟩,hlt⟩:=hd j o hjn ho
   refine wpOp_of_list ho (hobl j o hjn ho us w hC (fun k hk=>?_) _ fun v w' hS hFv=>?_)
   ·obtain ⟨e,he,rfl⟩:=List.mem_map.1 hk
    obtain ⟨he1,he2⟩:=List.mem_filter.1 he
    have h1:=hall e (by simpa using he1) he2
    refine hF e.on (by have:=hlt _ hk;omega) ?_
    have hsz:e.on<listed.size:=by rw[inv.size];have:=hlt _ hk;omega
    simp[hsz] at h1 ⊢
    exact h1
   ·show wpAny P md ops Q _ _ _ w'
    rw[hdd,fill_put hDd]
    have hjs:j<listed.size:=by rw[inv.size];omega
    refine any_of_flow hs hc hn hd hnd hSC hSF hobl htail f _ _ w' (inv.set hj hjn) ?_ (hSC _ _ hS hC) (fun i hi hli=>?_)
    ·have:=countP_set (p:=unl' listed) (p':=unl' (listed.setIfInBounds j true)) (List.nodup_range (n:=n)) (List.mem_range.2 hjn) (by simp[unl',hun]) (by simp[unl',hjs]) (fun k hk=>by
      unfold unl'
      rw[getD_set_ne true (fun e=>hk e.symm)])
     omega
    ·by_cases hij:i=j
     ·subst hij
      have e:dstOf ops i=d:=by simp[dstOf,ho,hdd]
      rw[e,if_pos rfl]
      exact hFv
     ·have e:dstOf ops j=d:=by simp[dstOf,ho,hdd]
      have hne:dstOf ops i≠d:=fun h=>hij (hnd i j hi hjn (h.trans e.symm))
      rw[if_neg hne]
      refine hSF i _ _ _ hS (hF i hi ?_)
      rwa [getD_set_ne true (fun e=>hij e.symm)] at hli
theorem FlowAll.at {C:World→Prop} {S:World→World→Prop} {F:Nat→Value→World→Prop} {a0:Act} {D:List Nat}:∀ {l:List Oper} {k:Nat},FlowAll P md ops C S F a0 D k l→∀ i o,l[i]?=some o→FlowAt P md ops C S F a0 D (k+i) o
 |[],_,_,i,o,h=>by simp at h
 |x :: l,k,hA,0,o,h=>by
  have e:x=o:=by simpa using h
  subst e
  exact hA.1
 |x :: l,k,hA,i+1,o,h=>by
  have:=FlowAll.at hA.2 i o (by simpa using h)
  rwa [show k+1+i=k+(i+1) by omega] at this
theorem wp_region_flow {id:Nat} {Q:Exit→Act→World→Prop} {a:Act} {w:World} {l:List Oper} (n:Nat) (D:List Nat) (C:World→Prop) (S:World→World→Prop) (F:Nat→Value→World→Prop)
  (hm:P.follows .mixedOrders=true) (hB:flowB .any l.toArray n D=true)
  (hSC:∀ w w',S w w'→C w→C w') (hSF:∀ j v w w',S w w'→F j v w→F j v w')
  (hC:C { w with drawn:=w.drawn+1 })
  (hobl:FlowAll P .any l.toArray C S F a D 0 (l.take n))
  (htail:∀ us w',C w'→(∀ j,j<n→F j (us (dstOf l.toArray j)) w')→wpList P l.toArray Q (l.drop n) (fill a D us) w'):(Code.region id l.toArray true).wp P Q a w:=by
 simp only[flowB,Bool.and_eq_true,decide_eq_true_eq] at hB
 obtain ⟨⟨⟨⟨⟨hn,hs⟩,hc⟩,hd⟩,hnd⟩,hseq⟩:=hB
 have hdl:(l.drop n).length=l.toArray.size-n:=by simp
 refine wp_region_any hm ?_
 have inv0:HeadInv .any l.toArray n (Array.replicate l.toArray.size false) :=
  ⟨by simp,fun j oj _ hl=>(by rw[getD_replicate_false] at hl;cases hl),fun t _ ht=>getD_in (by simpa using ht) (getD_replicate_false _ _)⟩
 have hcnt:(List.range n).countP (unl' (Array.replicate l.toArray.size false))=n:=by
  have h1:∀ j∈List.range n,unl' (Array.replicate l.toArray.size false) j=true:=fun j hj=>by
   have hj':j<l.toArray.size:=Nat.lt_trans (List.mem_range.1 hj) hn
   show (!(Array.replicate l.toArray.size false).getD j true)=true
   rw[getD_in (by simpa using hj') (getD_replicate_false _ _)]
   rfl
  rw[List.countP_eq_length.2 h1,List.length_range]
 have hd':∀ j o,j<n→l.toArray[j]?=some o→(∃ d,o.dst=some d∧D.contains d=true)∧∀ k∈depsOf .any o,k<j:=fun j o hj ho=>by
  have:=List.all_eq_true.1 hd j (List.mem_range.2 hj)
  rw[ho] at this
  simp only[Bool.and_eq_true] at this
  obtain ⟨h1,h2⟩:=this
  refine ⟨?_,fun k hk=>by simpa using List.all_eq_true.1 h2 k hk⟩
  cases hdst:o.dst with
  |none=>rw[hdst] at h1;cases h1
  |some d=>rw[hdst] at h1;exact ⟨d,rfl,h1⟩
 have hnd':∀ i j,i<n→j<n→dstOf l.toArray i=dstOf l.toArray j→i=j:=fun i j hi hj he=>by
  have hp:=List.pairwise_map.1 hnd
  rcases Nat.lt_trichotomy i j with h|h|h
  ·exact absurd he ((List.pairwise_iff_getElem.1 hp i j (by simpa using hi) (by simpa using hj) h) |> (by simpa using ·))
  ·exact h
  ·exact absurd he.symm ((List.pairwise_iff_getElem.1 hp j i (by simpa using hj) (by simpa using hi) h) |> (by simpa using ·))
 have hobl':∀ j o,j<n→l.toArray[j]?=some o→FlowAt P .any l.toArray C S F a D j o:=fun j o hj ho=>by
  have:=hobl.at j o (by rw[List.getElem?_take,if_pos hj];simpa using ho)
  rwa [Nat.zero_add] at this
 have:=any_of_flow (md:=.any) (Q:=Q) hs hc hn hd' hnd' hSC hSF hobl' (fun us w' listed inv hall hC' hF'=>by
  have he:listed=headListed n l.toArray.size:=by
   apply Array.ext
   ·rw[inv.size];simp[headListed]
   ·intro j h1 h2
    have hjs:j<l.toArray.size:=by rw[←inv.size];exact h1
    simp only[headListed,List.getElem_toArray,List.getElem_map,List.getElem_range]
    rcases Nat.lt_or_ge j n with h|h
    ·have:=hall j h
     simp[h1] at this
     simp[this,h]
    ·have:=inv.tail j h hjs
     simp[h1] at this
     simp[this]
     omega
  have h:=wpAny_of_seq (md:=.any) (Q':=Q) (l.drop n) n listed (fill a D us) w' (fun j=>by simp[List.getElem?_drop]) (by rw[hdl,he];exact hseq) (htail us w' hC' hF')
  rwa [hdl] at h) n _ (fun k=>a.tmps.getD k undef) _ inv0 hcnt hC (fun j hj hl=>by
   rw[getD_in (by simpa using Nat.lt_trans hj hn) (getD_replicate_false _ _)] at hl;cases hl)
 rw[fill_start,show n+(l.toArray.size-n)=l.toArray.size by omega] at this
 exact this
end
section
variable {P:Program} {ops:Array Oper} {md:Region.Mode} {C:World→Prop} {S:World→World→Prop} {F:Nat→Value→World→Prop} {a0:Act} {D:List Nat} {j:Nat} {o:Oper}
theorem fill_tmp {us:Nat→Value} {d:Nat} (hd:D.contains d=true) (hl:d<a0.tmps.size):(fill a0 D us).eval (.tmp d)=us d:=by
 show (fill a0 D us).tmps.getD d undef=us d
 simp[fill,hl]
 intro h
 exact absurd (by simpa using hd) h
theorem fill_at {us:Nat→Value} {d:Nat} (hd:D.contains d=true) (hl:d<a0.tmps.size):(fill a0 D us).tmps[d]?=some (us d):=by
 simp[fill,hl]
 intro h
 exact absurd (by simpa using hd) h
theorem fill_old {us:Nat→Value} {d:Nat} (hd:D.contains d=false):(fill a0 D us).eval (.tmp d)=a0.eval (.tmp d):=by
 have hd':¬ d∈D:=by simpa using hd
 show (fill a0 D us).tmps.getD d undef=a0.tmps.getD d undef
 rcases Nat.lt_or_ge d a0.tmps.size with h|h
 ·simp[fill,h,hd']
 ·have h2:(fill a0 D us).tmps.size≤d:=by simp[fill];exact h
  simp[Array.getD,Nat.not_lt.2 h,Nat.not_lt.2 h2]
def Wants (ops:Array Oper) (o:Oper) (a0:Act) (D:List Nat) (us:Nat→Value):Prop:=Region.wanted o (yielded ops (fill a0 D us).tmps)=true
theorem wants_free {us:Nat→Value} (h:o.guard=none):Wants ops o a0 D us:=by simp[Wants,Region.wanted,h]
theorem wants_on {us:Nat→Value} {k d:Nat} {b:Bool} (h:o.guard=some (k,b)) (hk:(ops[k]?).bind (·.dst)=some d) (hd:D.contains d=true) (hl:d<a0.tmps.size) (hu:us d=.bool b):Wants ops o a0 D us:=by
 unfold Wants Region.wanted
 rw[h]
 simp[yielded,hk,fill_at hd hl,hu]
theorem flow_step (hw:∀ us w,C w→(∀ k,k∈depsOf md o→F k (us (dstOf ops k)) w)→Wants ops o a0 D us)
  (h:∀ us w,C w→(∀ k,k∈depsOf md o→F k (us (dstOf ops k)) w)→∃ v w',(execOp (fill a0 D us).eval o).run P w=.ok (.value v) w'∧S w w'∧F j v w'):FlowAt P md ops C S F a0 D j o:=by
 intro us w hC hd Q hQ
 obtain ⟨v,w',hr,h1,h2⟩:=h us w hC hd
 unfold wpList
 rw[if_pos (show Region.wanted o (yielded ops (fill a0 D us).tmps)=true from hw us w hC hd)]
 left
 unfold Oper.wp
 rw[hr]
 exact hQ v w' h1 h2
theorem flow_call (f:FuncId) (args:(Nat→Value)→Array Value) (hw:∀ us w,C w→(∀ k,k∈depsOf md o→F k (us (dstOf ops k)) w)→Wants ops o a0 D us)
  (hr:∀ us w,(execOp (fill a0 D us).eval o).run P w=.ok (.enter f (args us)) w)
  (h:∀ us w,C w→(∀ k,k∈depsOf md o→F k (us (dstOf ops k)) w)→Calls P f (args us) w fun e w'=>∃ v,e=.returned v∧S w w'∧F j v w'):FlowAt P md ops C S F a0 D j o:=by
 intro us w hC hd Q hQ
 unfold wpList
 rw[if_pos (show Region.wanted o (yielded ops (fill a0 D us).tmps)=true from hw us w hC hd)]
 left
 unfold Oper.wp
 rw[hr]
 refine (h us w hC hd).mono ?_
 rintro e w' ⟨v,rfl,h1,h2⟩
 exact hQ v w' h1 h2
end
end Go.Proofs.YtjjbkpjjmbfdhaaGreatDoor
namespace Go.Proofs.YtjjbkpjjmbfdhaaGreatDoor
open Go.RowKit
section
variable {P:Program}
end
end Go.Proofs.YtjjbkpjjmbfdhaaGreatDoor
namespace Go.Proofs.YtjjbkpjjmbfdhaaGreatDoor
open Go Go.RowKit
section
variable {P:Program} {a:Act} {o:Oper} {w:World}
theorem move_val {x:Operand} {v:Value} (ho:o.op=.move x) (hx:a.eval x=v):(execOp a.eval o).run P w=.ok (.value v) w:=by
 simp[execOp,ho,hx,Sem.run_pure]
theorem load_val {ty t:TypeId} {x:Operand} {b:Nat} {cs:Array Value} {fr:Nat×Nat} {d:TypeDesc} (ho:o.op=.load ty x) (hx:a.eval x=.pointer (some ⟨b,0,none⟩)) (h:w.heap[b]?=some (.cells cs t fr))
  (hu:P.underlying ty=some d) (hd:d.isRow=true) (hi:(P.info? ty).map (·.size)=some cs.size):(execOp a.eval o).run P w=.ok (.value (.agg cs)) w:=by
 have:=run_loadVar_mid (P:=P) w b 0 ty cs.toList d (range_all h) hu hd (by simpa using hi)
 simp only[Array.toArray_toList] at this
 simp[execOp,ho,hx,Instr.loadAt,Instr.sureAddr,Result.andThen_ok,this]
theorem pick_true {c x y:Operand} {v:Value} (ho:o.op=.pick c x y) (hc:a.eval c=.bool true) (hx:a.eval x=v):(execOp a.eval o).run P w=.ok (.value v) w:=by
 simp[execOp,ho,hc,hx,Sem.run_pure,asBool]
theorem eqlstr_val {t r:TypeId} {x y:Operand} {s:ByteArray} (ho:o.op=.binOp .eql t x y r) (hx:a.eval x=.string s) (hy:a.eval y=.string s):(execOp a.eval o).run P w=.ok (.value (.bool true)) w:=by
 simp only[execOp,ho,hx,hy]
 simp[eqGuard,Sem.run_pure,binOp,Op.stringOp]
theorem call_enter {f:FuncId} {xs:Array Operand} {ts:Array TypeId} (ho:o.op=.call { callee:=.value (.func f),args:=xs,argTypes:=ts }) (hc:∀ args w,(callFunc f args).run P w=.ok (.enter f args) w) :
  (execOp a.eval o).run P w=.ok (.enter f (xs.map a.eval)) w:=by
 simp only[execOp,ho]
 rw[←hc]
 simp[resolve,invoke,Act.eval,Deferred.ofValue]
theorem build1_val {t e:TypeId} {x:Operand} {v:Value} (ho:o.op=.buildSlice t 1 #[(0,x)]) (hx:a.eval x=v) (hb:(Instr.buildSlice t 1 #[(0,v)]).run P w=.ok (.slice (some ⟨w.heap.size,0,none⟩) 1 1) (w.alloc (.cells #[v] e))) :
  (execOp a.eval o).run P w=.ok (.value (.slice (some ⟨w.heap.size,0,none⟩) 1 1)) (w.alloc (.cells #[v] e)):=by
 simp only[execOp,ho,List.map_toArray,List.map_cons,List.map_nil,hx]
 simp[Result.andThen,hb]
theorem assign_val {x:Operand} {v:Value} (ho:o.op=.assign x) (hx:a.eval x=v):(execOp a.eval o).run P w=.ok (.value v) w:=by
 simp[execOp,ho,hx,Sem.run_pure]
theorem wpList_last {ops:Array Oper} {Q:Exit→Act→World→Prop} {v:Value} (hg:o.guard=none) (hr:(execOp a.eval o).run P w=.ok (.value v) w) (h:Q .normal (a.put o.dst v) w):wpList P ops Q [o] a w:=by
 refine wpList_plain hg fun K hK=>?_
 unfold Oper.wp
 rw[hr]
 exact hK _ _ h
end
end Go.Proofs.YtjjbkpjjmbfdhaaGreatDoor
