import Derived.Test.YtndkifkhdollgaaGreatDoorZs08
import Derived.OrdersHeld
import Derived.Deep.RegionHeld3
set_option linter.unusedVariables false
set_option linter.unusedSimpArgs false
namespace Go.Proofs.YtndkifkhdollgaaGreatDoor
open Go
section
variable {P:Program} {ops:Array Oper} {md:Region.Mode} {C:World→Prop}
def sinkFrom (md:Region.Mode) (ops:Array Oper) (k n:Nat):Bool :=
 (List.range n).all fun i=>decide (i<k)||(List.range (n+1)).any fun j=>decide (i<j)&&Region.waitsFor md ops j i
def Since (k:Nat) (listed:Array Bool):Prop:=∀ i,i<k→listed.getD i true=true
theorem Since.set {k i:Nat} {listed:Array Bool} (h:Since k listed):Since k (listed.setIfInBounds i true):=fun j hj=>by
 by_cases hij:i=j
 ·subst hij
  have:=h i hj
  rcases Nat.lt_or_ge i listed.size with h'|h' <;> simp_all
 ·rw[getD_set_ne true hij];exact h j hj
theorem tail_waitsF {k n:Nat} {listed:Array Bool} (hs:sinkFrom md ops k n=true) (hc:Region.chainB md ops n=true) (hn:n<ops.size) (hk:Since k listed) (inv:HeadInv md ops n listed) :
  ∀ (d i:Nat),n-i=d→i<n→listed.getD i true=false→∀ t,n≤t→t ∉ Region.ready md ops listed:=by
 intro d
 induction d using Nat.strongRecOn with
 |_ d ih =>
  intro i hd hi hun t ht hr
  obtain ⟨_,ot,hot,hall⟩:=mem_ready.1 hr
  have htlt:t<ops.size:=(Array.getElem?_eq_some_iff.1 hot).1
  have hki:¬ i<k:=fun h=>by rw[hk i h] at hun;cases hun
  by_cases htn:t=n
  ·subst htn
   have h1:=List.all_eq_true.1 hs i (List.mem_range.2 hi)
   simp only[hki,decide_false,Bool.false_or] at h1
   obtain ⟨j,hj,hj2⟩:=List.any_eq_true.1 h1
   simp only[Bool.and_eq_true,decide_eq_true_eq] at hj2
   obtain ⟨oj,hoj,e,he,hb,hon⟩:=Region.waitsFor_spec hj2.2
   have hjle:j≤t:=by have:=List.mem_range.1 hj;omega
   by_cases hjt:j=t
   ·subst hjt
    obtain rfl:oj=ot:=Option.some.inj (hoj.symm.trans hot)
    have h2:=hall e he hb
    rw[hon,getD_both hun] at h2
    cases h2
   ·cases hl:listed.getD j false with
    |true =>
     have h2:=inv.closed j oj hoj hl e he hb
     rw[hon,getD_both hun] at h2
     cases h2
    |false =>
     have hjs:j<listed.size:=by rw[inv.size];omega
     exact ih (t-j) (by omega) j rfl (by omega) (getD_in hjs hl) t (Nat.le_refl _) hr
  ·have h1:=List.all_eq_true.1 hc t (List.mem_range.2 htlt)
   simp only[Bool.or_eq_true,decide_eq_true_eq] at h1
   rcases h1 with h1|h1
   ·omega
   ·obtain ⟨o',ho',e,he,hb,hon⟩:=Region.waitsFor_spec h1
    obtain rfl:o'=ot:=Option.some.inj (ho'.symm.trans hot)
    have h2:=hall e he hb
    rw[hon,getD_both (inv.tail (t-1) (by omega) (by omega))] at h2
    cases h2
theorem headQ_firstF {k n i:Nat} {oi:Oper} {v:Value} {L:Array Bool→Act→Prop} (hi:ops[i]?=some oi) (hsel:∀ (j:Nat) (o:Oper) cs b,ops[j]?=some o→o.op≠.select cs b)
  (hs:sinkFrom md ops k n=true) (hc:Region.chainB md ops n=true) (hn:n<ops.size) (hin:i<n)
  (hdone:∀ listed a,L listed a→∀ j∈Region.ready md ops listed,n≤j) (f:Nat) :
  ∀ (listed:Array Bool) (a:Act),Since k listed→HeadInv md ops n listed →
   (∀ j oj,ops[j]?=some oj→j≠i→listed.getD j true=false→(∀ e∈oj.after,Region.binds md e=true→e.on≠i)→oi.apart ops oj=true) →
   i∈Region.ready md ops listed→YieldsIn P ops C oi v a →
   headQ P md ops C n L f (listed.setIfInBounds i true) (a.put oi.dst v)→headQ P md ops C n L (f+1) listed a:=by
 have below:∀ (listed:Array Bool),Since k listed→HeadInv md ops n listed→i∈Region.ready md ops listed→∀ j∈Region.ready md ops listed,j<n:=fun listed hk inv hr j hj=>by
  rcases Nat.lt_or_ge j n with h|h
  ·exact h
  ·exact absurd hj (tail_waitsF hs hc hn hk inv _ i rfl hin (mem_ready.1 hr).1 j h)
 induction f with
 |zero =>
  intro listed a hk inv _ hr hy H
  refine ⟨fun h=>(by rw[h] at hr;cases hr),fun j hj=>⟨below listed hk inv hr j hj,?_⟩⟩
  by_cases hji:j=i
  ·subst hji;exact hy.qOp hi H
  ·have:=hdone _ _ H j (ready_mono hj hji)
   have:=below listed hk inv hr j hj
   omega
 |succ f ih =>
  intro listed a hk inv hfree hr hy H
  refine ⟨fun h=>(by rw[h] at hr;cases hr),fun j hj=>⟨below listed hk inv hr j hj,?_⟩⟩
  have hjn:=below listed hk inv hr j hj
  by_cases hji:j=i
  ·subst hji;exact hy.qOp hi H
  ·obtain ⟨hjun,oj,hoj,hall⟩:=mem_ready.1 hj
   have hnot:∀ e∈oj.after,Region.binds md e=true→e.on≠i:=fun e he hb heq=>by
    have h1:=hall e he hb
    rw[heq,getD_both (mem_ready.1 hr).1] at h1
    cases h1
   refine qOp_mono (fun a' h3=>ih (listed.setIfInBounds j true) a' hk.set (inv.set hj hjn) (fun m om hm hmi hun hno=>?_) (ready_mono hr (Ne.symm hji)) h3.1 ?_)
    (qOp_put hoj (hfree j oj hoj hji hjun hnot) (fun cs b=>hsel i oi cs b hi) (fun cs b=>hsel j oj cs b hoj) hy (H.2 j (ready_mono hj hji)).2)
   ·refine hfree m om hm hmi ?_ hno
    by_cases hjk:j=m
    ·subst hjk;exact hjun
    ·rw[getD_set_ne true hjk] at hun;exact hun
   ·rw[Array.setIfInBounds_comm _ _ hji]
    exact h3.2
theorem headQ_lexF {k n g:Nat} {Lq:Act→Prop} (hsel:Region.noSelect ops=true) (hs:sinkFrom md ops k n=true) (hc:Region.chainB md ops n=true) (hn:n<ops.size) (l:List Oper) :
  ∀ (m:Nat) (listed:Array Bool) (a:Act),(∀ j,j<l.length→l[j]?=ops[m+j]?)→m+l.length=n→Since k listed→HeadInv md ops n listed →
  Region.lexHead md ops g l.length m listed=true→wpQuiet P ops C Lq l a →
  headQ P md ops C n (fun listed' a'=>Region.seqB md ops g n listed'=true∧Lq a') l.length listed a:=by
 induction l with
 |nil =>
  intro m listed a _ hk _ _ hB h
  obtain rfl:m=n:=by simpa using hk
  exact ⟨by simpa [Region.lexHead] using hB,h⟩
 |cons o l ih =>
  intro m listed a hl hk hsi inv hB h
  have h0:ops[m]?=some o:=by simpa using (hl 0 (by simp)).symm
  simp only[List.length_cons,Region.lexHead,Bool.and_eq_true] at hB
  obtain ⟨⟨hr,hf⟩,hB'⟩:=hB
  have hkn:m<n:=by simp only[List.length_cons] at hk;omega
  have hr':m∈Region.ready md ops listed:=by simpa using hr
  obtain ⟨v,hy,hK⟩:=yieldsIn_of_qOp h0 (show qOp P ops C m (wpQuiet P ops C Lq l) a by unfold qOp;simp only[h0];exact h)
  exact headQ_firstF h0 (Region.noSelect_spec hsel) hs hc hn hkn (fun listed' a' hL=>seqB_ready hL.1) l.length listed a hsi inv (Region.free_spec h0 hf) hr' hy
   (ih (m+1) _ _ (fun j hj=>by have:=hl (j+1) (by simp;omega);simpa [Nat.add_assoc,Nat.add_comm 1 j] using this) (by simp only[List.length_cons] at hk;omega) hsi.set (inv.set hr' hkn) hB' hK)
theorem held_of_any {Q:Exit→Act→World→Prop} (f:Nat):∀ (listed:Array Bool) (a:Act) (w:World),wpAny P md ops Q f listed a w→wpAnyH P md ops Q (fun _=>True) f listed a w:=by
 induction f with
 |zero=>intro listed a w h;exact h
 |succ f ih=>intro listed a w h;exact ⟨h.1,fun i hi=>wpOp_mono (fun a' w' h'=>⟨trivial,ih _ a' w' h'⟩) (h.2 i hi)⟩
theorem wp_region_move_quiet_tail {id:Nat} {Q:Exit→Act→World→Prop} {a:Act} {w:World} {o:Oper} {l:List Oper} (C:World→Prop) (n:Nat) (x:Operand) (ho:o.op=.move x) (hg:o.guard=none)
  (hm:P.follows .mixedOrders=true)
  (hB:(Region.noSelect (o :: l).toArray&&decide (0<n)&&decide (n<(o :: l).toArray.size)&&sinkFrom .any (o :: l).toArray 1 n&&Region.chainB .any (o :: l).toArray n &&
   ((Region.ready .any (o :: l).toArray (Array.replicate (o :: l).toArray.size false)).contains 0&&Region.free .any (o :: l).toArray (Array.replicate (o :: l).toArray.size false) 0) &&
   Region.lexHead .any (o :: l).toArray ((o :: l).toArray.size-n) (n-1) 1 ((Array.replicate (o :: l).toArray.size false).setIfInBounds 0 true))=true)
  (hC:C { w with drawn:=w.drawn+1 })
  (h:wpQuiet P (o :: l).toArray C (fun a'=>∀ w',C w'→wpList P (o :: l).toArray (NoPanic Q) (l.drop (n-1)) a' w') (l.take (n-1)) (a.put o.dst (a.eval x))):(Code.region id (o :: l).toArray true).wp P Q a w:=by
 simp only[Bool.and_eq_true,decide_eq_true_eq] at hB
 obtain ⟨⟨⟨⟨⟨⟨hsel,hn0⟩,hn⟩,hs⟩,hc⟩,⟨hr0,hf0⟩⟩,hlex⟩:=hB
 have hn':n<l.length+1:=by simpa using hn
 have htl:(l.take (n-1)).length=n-1:=by simp;omega
 have hdl:(l.drop (n-1)).length=(o :: l).toArray.size-n:=by simp;omega
 have h0r:0∈Region.ready .any (o :: l).toArray (Array.replicate (o :: l).toArray.size false):=by simpa using hr0
 have inv0:HeadInv .any (o :: l).toArray n (Array.replicate (o :: l).toArray.size false) :=
  ⟨by simp,fun j oj _ hl=>(by rw[getD_replicate_false] at hl;cases hl),fun t _ ht=>getD_in (by simpa using ht) (getD_replicate_false _ _)⟩
 have inv1:=inv0.set h0r hn0
 have hsi:Since 1 ((Array.replicate (o :: l).toArray.size false).setIfInBounds 0 true):=fun i hi=>by
  obtain rfl:i=0:=by omega
  simp
 have H:=headQ_lexF (md:=.any) (k:=1) (g:=(o :: l).toArray.size-n) hsel hs hc hn (l.take (n-1)) 1 _ (a.put o.dst (a.eval x)) (fun j hj=>by
  have hj':j<n-1:=by rw[htl] at hj;exact hj
  simp[hj',Nat.add_comm 1 j]) (by rw[htl];omega) hsi inv1 (by rw[htl];exact hlex) h
 refine Code.wp_mono (Q:=NoPanic Q) (fun e a w=>NoPanic.imp e a w) ?_
 refine wp_region_any hm ?_
 have hh:=any_of_headQ (Q':=NoPanic Q) (g:=(o :: l).toArray.size-n) (fun listed a' w' hw' hL=>by
  have:=wpAny_of_seq (md:=.any) (Q':=NoPanic Q) (l.drop (n-1)) n listed a' w' (fun j=>by
   rw[List.getElem?_drop]
   simp only[List.getElem?_toArray]
   rw[show n+j=(n-1+j)+1 by omega,List.getElem?_cons_succ]) (by rw[hdl];exact hL.1) (hL.2 w' hw')
  rwa [hdl] at this) _ _ _ _ hC H
 rw[htl,show n-1+((o :: l).toArray.size-n)=l.length by simp;omega] at hh
 have:=wpAnyH_take (S:=fun _=>True) (fuel:=l.length) (show (o :: l).toArray[0]?=some o by simp) hsel hf0 hr0 (fun c a w h=>h) (v:=a.eval x) (.inl ⟨by simp[Region.wanted,hg],fun w _=>BigFrame.run_move x ho w⟩) trivial (held_of_any _ _ _ _ hh)
 have h2:=wpAny_of_held _ _ _ _ this
 rwa [show l.length+1=(o :: l).toArray.size by simp] at h2
end
end Go.Proofs.YtndkifkhdollgaaGreatDoor
