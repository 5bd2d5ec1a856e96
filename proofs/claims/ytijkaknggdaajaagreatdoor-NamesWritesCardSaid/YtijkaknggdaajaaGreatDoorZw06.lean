import Derived.Test.YtijkaknggdaajaaGreatDoorZw01
import Derived.StillTail
import Derived.Shelf.Unicode.ValidAny
import Derived.Shelf.SlSortCmp.NoneTotal
import Derived.Shelf.SlCmpFuncs.IsSortedFunc
import Derived.Shelf.SlicesE.Clone
import Derived.Shelf.Spec.SlicesGrow
import Derived.Lib.ConvBytes
import Derived.Stop.Asserts
import Derived.Handy
set_option linter.unusedVariables false
set_option linter.unusedSimpArgs false
set_option maxRecDepth 100000
set_option maxHeartbeats 1000000
namespace Go.Proofs.YtijkaknggdaajaaGreatDoor
open Go.Proofs.Tryz
open Lib (hid)
open Go
section
variable {P:Program} {ops:Array Oper} {md:Region.Mode} {C:World->Prop}
def zJl (P:Program) (md:Region.Mode) (ops:Array Oper) (C:World->Prop) (n:Nat) (L:Array Bool->Act->Prop):Nat->Array Bool->Act->Prop
 |0,listed,a=>L listed a
 |f+1,listed,a=>Region.ready md ops listed≠[]/\∀ i∈Region.ready md ops listed,i<n/\qOp P ops C i (zJl P md ops C n L f (listed.setIfInBounds i true)) a
theorem zFC {n g:Nat} {L:Array Bool->Act->Prop} {Q':Exit->Act->World->Prop} (hL:∀ listed a w,C w->L listed a->wpAny P md ops Q' g listed a w)
  (f:Nat):∀ (listed:Array Bool) (a:Act) (w:World),C w->zJl P md ops C n L f listed a->wpAny P md ops Q' (f+g) listed a w:=by
 induction f with
 |zero=>intro listed a w hw h;rw[Nat.zero_add];exact hL _ _ _ hw h
 |succ f ih =>
  intro listed a w hw h;rw[show f+1+g=(f+g)+1 by omega];exact⟨fun h0=>absurd h0 h.1,fun i hi=>wpOp_of_qOp hw (fun a' w' hw' h'=>ih _ a' w' hw' h') (h.2 i hi).2⟩
theorem zGl {n i:Nat} {oi:Oper} {v:Value} {L:Array Bool->Act->Prop} (hi:ops[i]?=some oi) (hsel:∀ (j:Nat) (o:Oper) cs b,ops[j]?=some o->o.op≠.select cs b)
  (hs:Region.sinkB md ops n=true) (hc:Region.chainB md ops n=true) (hn:n<ops.size) (hin:i<n)
  (hdone:∀ listed a,L listed a->∀ j∈Region.ready md ops listed,n<=j) (f:Nat) :
  ∀ (listed:Array Bool) (a:Act),HeadInv md ops n listed ->
   (∀ j oj,ops[j]?=some oj->j≠i->listed.getD j true=false->(∀ e∈oj.after,Region.binds md e=true->e.on≠i)->oi.apart ops oj=true) ->
   i∈Region.ready md ops listed->YieldsIn P ops C oi v a ->
   zJl P md ops C n L f (listed.setIfInBounds i true) (a.put oi.dst v)->zJl P md ops C n L (f+1) listed a:=by
 have below:∀ (listed:Array Bool),HeadInv md ops n listed->i∈Region.ready md ops listed->∀ j∈Region.ready md ops listed,j<n:=fun listed inv hr j hj=>by
  rcases Nat.lt_or_ge j n with h|h
  ·exact h
  ·exact absurd hj (tail_waits hs hc hn inv _ i rfl hin (mem_ready.1 hr).1 j h)
 induction f with
 |zero =>
  intro listed a inv _ hr hy H;refine⟨fun h=>(by rw[h]at hr;cases hr),fun j hj=>⟨below listed inv hr j hj,?_⟩⟩;by_cases hji:j=i
  ·subst hji;exact hy.qOp hi H
  ·have:=hdone _ _ H j (ready_mono hj hji);have:=below listed inv hr j hj;omega
 |succ f ih =>
  intro listed a inv hfree hr hy H;refine⟨fun h=>(by rw[h]at hr;cases hr),fun j hj=>⟨below listed inv hr j hj,?_⟩⟩;have hjn:=below listed inv hr j hj;by_cases hji:j=i
  ·subst hji;exact hy.qOp hi H
  ·obtain⟨hjun,oj,hoj,hall⟩:=mem_ready.1 hj;have hnot:∀ e∈oj.after,Region.binds md e=true->e.on≠i:=fun e he hb heq=>by
    have h1:=hall e he hb;rw[heq,getD_both (mem_ready.1 hr).1]at h1;cases h1
   refine qOp_mono (fun a' h3=>ih (listed.setIfInBounds j true) a' (inv.set hj hjn) (fun k ok hk hki hun hno=>?_) (ready_mono hr (Ne.symm hji)) h3.1 ?_)
    (qOp_put hoj (hfree j oj hoj hji hjun hnot) (fun cs b=>hsel i oi cs b hi) (fun cs b=>hsel j oj cs b hoj) hy (H.2 j (ready_mono hj hji)).2)
   ·refine hfree k ok hk hki ?_ hno;by_cases hjk:j=k
    ·subst hjk;exact hjun
    ·rw[getD_set_ne true hjk]at hun;exact hun
   ·rw[Array.setIfInBounds_comm _ _ hji];exact h3.2
theorem zJk {n g:Nat} {Lq:Act->Prop} (hsel:Region.noSelect ops=true) (hs:Region.sinkB md ops n=true) (hc:Region.chainB md ops n=true) (hn:n<ops.size) (l:List Oper) :
  ∀ (k:Nat) (listed:Array Bool) (a:Act),(∀ j,j<l.length->l[j]?=ops[k+j]?)->k+l.length=n->HeadInv md ops n listed ->
  Region.lexHead md ops g l.length k listed=true->wpQuiet P ops C Lq l a ->
  zJl P md ops C n (fun listed' a'=>Region.seqB md ops g n listed'=true/\Lq a') l.length listed a:=by
 induction l with
 |nil =>
  intro k listed a _ hk _ hB h;obtain rfl:k=n:=by simpa using hk
  exact⟨by simpa [Region.lexHead]using hB,h⟩
 |cons o l ih =>
  intro k listed a hl hk inv hB h;have h0:ops[k]?=some o:=by simpa using (hl 0 (by simp)).symm
  simp only[List.length_cons,Region.lexHead,Bool.and_eq_true]at hB;obtain⟨⟨hr,hf⟩,hB'⟩:=hB;have hkn:k<n:=by simp only[List.length_cons]at hk;omega
  have hr':k∈Region.ready md ops listed:=by simpa using hr
  obtain⟨v,hy,hK⟩:=yieldsIn_of_qOp h0 (show qOp P ops C k (wpQuiet P ops C Lq l) a by unfold qOp;simp only[h0];exact h);exact zGl h0 (Region.noSelect_spec hsel) hs hc hn hkn (fun listed' a' hL=>seqB_ready hL.1) l.length listed a inv (Region.free_spec h0 hf) hr' hy
   (ih (k+1) _ _ (fun j hj=>by have:=hl (j+1) (by simp;omega);simpa [Nat.add_assoc,Nat.add_comm 1 j]using this) (by simp only[List.length_cons]at hk;omega) (inv.set hr' hkn) hB' hK)
theorem zCa {id:Nat} {Q:Exit->Act->World->Prop} {a:Act} {w:World} {l:List Oper} (C:World->Prop) (n:Nat) (hm:P.follows .mixedOrders=true) (hB:Region.lexTailB .any l.toArray n=true)
  (hC:C { w with drawn:=w.drawn+1 })
  (h:wpQuiet P l.toArray C (fun a'=>∀ w',C w'->wpList P l.toArray Q (l.drop n) a' w') (l.take n) a):(Code.region id l.toArray true).wp P Q a w:=by
 simp only[Region.lexTailB,Bool.and_eq_true,decide_eq_true_eq]at hB;obtain⟨⟨⟨⟨hsel,hn⟩,hs⟩,hc⟩,hlex⟩:=hB;have hn':n<l.length:=by simpa using hn
 have htl:(l.take n).length=n:=by simp;omega
 have hdl:(l.drop n).length=l.toArray.size-n:=by simp
 have inv0:HeadInv .any l.toArray n (Array.replicate l.toArray.size false) :=
  ⟨by simp,fun j oj _ hl=>(by rw[getD_replicate_false]at hl;cases hl),fun t _ ht=>getD_in (by simpa using ht) (getD_replicate_false _ _)⟩
 have H:=zJk (md:=.any) (g:=l.toArray.size-n) hsel hs hc hn (l.take n) 0 _ a (fun j hj=>by
  have hj':j<n:=by rw[htl]at hj;exact hj
  simp[hj']) (by simpa using htl) inv0 (by rw[htl];exact hlex) h
 refine wp_region_any hm ?_;have:=zFC (Q':=Q) (g:=l.toArray.size-n) (fun listed a' w' hw' hL=>by
  have:=wpAny_of_seq (md:=.any) (Q':=Q) (l.drop n) n listed a' w' (fun j=>by simp[List.getElem?_drop]) (by rw[hdl];exact hL.1) (hL.2 w' hw');rwa [hdl]at this) _ _ _ _ hC H
 rw[htl,show n+(l.toArray.size-n)=l.toArray.size by omega]at this;exact this
end
section
variable {P:Program} {ops:Array Oper} {md:Region.Mode}
def fill (a0:Act) (D:List Nat) (us:Nat->Value):Act:=⟨(a0.tmps.toList.mapIdx fun k v=>if D.contains k then us k else v).toArray,a0.defers⟩
theorem zHP (a0:Act) (D:List Nat):fill a0 D (fun k=>a0.tmps.getD k undef)=a0:=by
 obtain⟨⟨l⟩,d⟩:=a0;unfold fill
 congr 1
 congr 1
 refine List.ext_getElem (by simp) fun i h1 h2=>?_
 simp only[List.getElem_mapIdx];split
 ·simp[h2]
 ·rfl
theorem zKr {a0:Act} {D:List Nat} {us:Nat->Value} {d:Nat} (hd:D.contains d=true) (v:Value):(fill a0 D us).put (some d) v=fill a0 D (fun k=>if k=d then v else us k):=by
 obtain⟨⟨l⟩,e⟩:=a0
 show(⟨((l.mapIdx fun k x=>if D.contains k then us k else x).toArray).setIfInBounds d v,e⟩:Act)=⟨(l.mapIdx fun k x=>if D.contains k then(if k=d then v else us k)else x).toArray,e⟩
 congr 1
 rw[List.setIfInBounds_toArray]
 congr 1
 refine List.ext_getElem (by simp only[List.length_set,List.length_mapIdx]) fun i h1 h2=>?_
 simp only[List.getElem_set,List.getElem_mapIdx];by_cases hi:d=i
 ·subst hi;rw[if_pos rfl,if_pos hd,if_pos rfl]
 ·rw[if_neg hi];by_cases hc:D.contains i=true
  ·rw[if_pos hc,if_pos hc,if_neg (fun e=>hi e.symm)]
  ·rw[if_neg hc,if_neg hc]
def zBQ (ops:Array Oper) (j:Nat):Nat:=((ops[j]?).bind (·.dst)).getD 0
def zCz (md:Region.Mode) (o:Oper):List Nat:=(o.after.toList.filter fun e=>Region.binds md e).map (·.on)
def zB8 (n size:Nat):Array Bool:=((List.range size).map fun j=>decide (j<n)).toArray
def zMx (md:Region.Mode) (ops:Array Oper) (n:Nat) (D:List Nat):Bool :=
 decide (n<ops.size)&&Region.sinkB md ops n&&Region.chainB md ops n &&
 ((List.range n).all fun j=>match ops[j]? with
  |some o=>(match o.dst with|some d=>D.contains d|none=>false)&&(zCz md o).all (· < j)
  |none=>false) &&
 decide ((List.range n).map (zBQ ops)).Nodup&&Region.seqB md ops (ops.size-n) n (zB8 n ops.size)
def zDJ (P:Program) (md:Region.Mode) (ops:Array Oper) (C:World->Prop) (S:World->World->Prop) (F:Nat->Value->World->Prop) (a0:Act) (D:List Nat) (j:Nat) (o:Oper):Prop :=
 ∀ (us:Nat->Value) (w:World),C w->(∀ k,k∈zCz md o->F k (us (zBQ ops k)) w) ->
  ∀ Q:Exit->Act->World->Prop,(∀ v w',S w w'->F j v w'->Q .normal ((fill a0 D us).put o.dst v) w')->wpList P ops Q [o] (fill a0 D us) w
def FlowAll (P:Program) (md:Region.Mode) (ops:Array Oper) (C:World->Prop) (S:World->World->Prop) (F:Nat->Value->World->Prop) (a0:Act) (D:List Nat):Nat->List Oper->Prop
 |_,[]=>True
 |j,o :: r=>zDJ P md ops C S F a0 D j o/\FlowAll P md ops C S F a0 D (j+1) r
theorem zIa (o:Oper) (a:Act) (K:Act->World->Prop) (Q:Exit->Act->World->Prop) (r:Result Next) :
  o.upon P a K (fun ex a w=>match ex with | .normal=>K a w|e=>Q e a w) r=o.upon P a K Q r:=by
 cases r with
 |ok n w=>cases n <;> rfl
 |halt x w=>cases x <;> rfl
theorem zEI {o:Oper} {j:Nat} {a:Act} {w:World} {K:Act->World->Prop} {Q:Exit->Act->World->Prop} (ho:ops[j]?=some o)
  (h:wpList P ops (fun ex a w=>match ex with | .normal=>K a w|e=>Q e a w) [o] a w):wpOp P ops Q j K a w:=by
 unfold wpOp;rw[ho];simp only[wpList]at h;unfold Oper.wp at h;rw[zIa]at h;exact h
theorem zD4 {p p':Nat->Bool} {i:Nat}:∀ {l:List Nat},l.Nodup->i∈l->p i=true->p' i=false->(∀ k,k≠i->p' k=p k)->l.countP p'+1=l.countP p
 |[],_,h,_,_,_=>by cases h
 |x :: l,hn,hi,h1,h2,h3=>by
  obtain⟨hx,hl⟩:=List.nodup_cons.1 hn;by_cases hxi:x=i
  ·subst hxi;have e:l.countP p'=l.countP p:=List.countP_congr fun k hk=>by rw[h3 k (fun e=>hx (e ▸ hk))]
   rw[List.countP_cons_of_neg (by rw[h2];simp),List.countP_cons_of_pos h1,e]
  ·have hil:i∈l:=by
    rcases List.mem_cons.1 hi with h|h
    ·exact absurd h.symm hxi
    ·exact h
   have ih:=zD4 hl hil h1 h2 h3;cases hp:p x
   ·rw[List.countP_cons_of_neg (by rw[h3 x hxi,hp];simp),List.countP_cons_of_neg (by rw[hp];simp)];exact ih
   ·rw[List.countP_cons_of_pos (by rw[h3 x hxi];exact hp),List.countP_cons_of_pos hp,<-ih]
def unl' (listed:Array Bool) (j:Nat):Bool:=!listed.getD j true
theorem zDI {C:World->Prop} {S:World->World->Prop} {F:Nat->Value->World->Prop} {a0:Act} {D:List Nat} {n:Nat} {Q:Exit->Act->World->Prop}
  (hs:Region.sinkB md ops n=true) (hc:Region.chainB md ops n=true) (hn:n<ops.size)
  (hd:∀ j o,j<n->ops[j]?=some o->(∃ d,o.dst=some d/\D.contains d=true)/\∀ k∈zCz md o,k<j)
  (hnd:∀ i j,i<n->j<n->zBQ ops i=zBQ ops j->i=j)
  (hSC:∀ w w',S w w'->C w->C w') (hSF:∀ j v w w',S w w'->F j v w->F j v w')
  (hobl:∀ j o,j<n->ops[j]?=some o->zDJ P md ops C S F a0 D j o)
  (htail:∀ us w listed,HeadInv md ops n listed->(∀ j,j<n->listed.getD j true=true)->C w->(∀ j,j<n->F j (us (zBQ ops j)) w)->wpAny P md ops Q (ops.size-n) listed (fill a0 D us) w) :
  ∀ (f:Nat) (listed:Array Bool) (us:Nat->Value) (w:World),HeadInv md ops n listed->(List.range n).countP (unl' listed)=f->C w ->
   (∀ j,j<n->listed.getD j true=true->F j (us (zBQ ops j)) w)->wpAny P md ops Q (f+(ops.size-n)) listed (fill a0 D us) w
 |0,listed,us,w,inv,hf,hC,hF=>by
  rw[Nat.zero_add];have hall:∀ j,j<n->listed.getD j true=true:=fun j hj=>by
   have:=List.countP_eq_zero.1 hf j (List.mem_range.2 hj);simpa [unl']using this
  exact htail us w listed inv hall hC (fun j hj=>hF j hj (hall j hj))
 |f+1,listed,us,w,inv,hf,hC,hF=>by
  rw[show f+1+(ops.size-n)=(f+(ops.size-n))+1 by omega];have hex:∃ j,j<n/\listed.getD j true=false:=by
   have:0<(List.range n).countP (unl' listed):=by omega
   obtain⟨j,hj,hu⟩:=List.countP_pos_iff.1 this;exact⟨j,List.mem_range.1 hj,by simpa [unl']using hu⟩
  have below:∀ j∈Region.ready md ops listed,j<n:=fun j hj=>by
   obtain⟨i,hi,hu⟩:=hex;rcases Nat.lt_or_ge j n with h|h
   ·exact h
   ·exact absurd hj (tail_waits hs hc hn inv _ i rfl hi hu j h)
  refine⟨fun h0=>?_,fun j hj=>?_⟩
  ·have hmin:∀ m j,j=m->j<n->listed.getD j true=false->False:=by
    intro m
    induction m using Nat.strongRecOn with
    |_ m ih =>
     rintro j rfl hj hu;obtain⟨o,ho⟩:∃ o,ops[j]?=some o:=⟨_,Array.getElem?_eq_getElem (by omega)⟩
     have hr:j∈Region.ready md ops listed:=mem_ready.2 ⟨hu,o,ho,fun e he hb=>by
      have hk:=(hd j o hj ho).2 e.on (List.mem_map.2 ⟨e,List.mem_filter.2 ⟨by simpa using he,hb⟩,rfl⟩);cases hl:listed.getD e.on true with
      |false=>exact(ih e.on hk e.on rfl (by omega) hl).elim
      |true =>
       have hsz:e.on<listed.size:=by rw[inv.size];omega
       simp[hsz]at hl ⊢;exact hl⟩
     rw[h0]at hr;cases hr
   obtain⟨j,hj,hu⟩:=hex;exact(hmin j j rfl hj hu).elim
  ·have hjn:=below j hj;obtain⟨hun,o,ho,hall⟩:=mem_ready.1 hj;obtain⟨⟨d,hdd,hDd⟩,hlt⟩:=hd j o hjn ho;refine zEI ho (hobl j o hjn ho us w hC (fun k hk=>?_) _ fun v w' hS hFv=>?_)
   ·obtain⟨e,he,rfl⟩:=List.mem_map.1 hk;obtain⟨he1,he2⟩:=List.mem_filter.1 he;have h1:=hall e (by simpa using he1) he2;refine hF e.on (by have:=hlt _ hk;omega) ?_;have hsz:e.on<listed.size:=by rw[inv.size];have:=hlt _ hk;omega
    simp[hsz]at h1 ⊢;exact h1
   ·show wpAny P md ops Q _ _ _ w'
    rw[hdd,zKr hDd];have hjs:j<listed.size:=by rw[inv.size];omega
    refine zDI hs hc hn hd hnd hSC hSF hobl htail f _ _ w' (inv.set hj hjn) ?_ (hSC _ _ hS hC) (fun i hi hli=>?_)
    ·have:=zD4 (p:=unl' listed) (p':=unl' (listed.setIfInBounds j true)) (List.nodup_range (n:=n)) (List.mem_range.2 hjn) (by simp[unl',hun]) (by simp[unl',hjs]) (fun k hk=>by
      unfold unl';rw[getD_set_ne true (fun e=>hk e.symm)])
     omega
    ·by_cases hij:i=j
     ·subst hij;have e:zBQ ops i=d:=by simp[zBQ,ho,hdd]
      rw[e,if_pos rfl];exact hFv
     ·have e:zBQ ops j=d:=by simp[zBQ,ho,hdd]
      have hne:zBQ ops i≠d:=fun h=>hij (hnd i j hi hjn (h.trans e.symm))
      rw[if_neg hne];refine hSF i _ _ _ hS (hF i hi ?_);rwa [getD_set_ne true (fun e=>hij e.symm)]at hli
theorem FlowAll.at {C:World->Prop} {S:World->World->Prop} {F:Nat->Value->World->Prop} {a0:Act} {D:List Nat}:∀ {l:List Oper} {k:Nat},FlowAll P md ops C S F a0 D k l->∀ i o,l[i]?=some o->zDJ P md ops C S F a0 D (k+i) o
 |[],_,_,i,o,h=>by simp at h
 |x :: l,k,hA,0,o,h=>by
  have e:x=o:=by simpa using h
  subst e;exact hA.1
 |x :: l,k,hA,i+1,o,h=>by
  have:=FlowAll.at hA.2 i o (by simpa using h);rwa [show k+1+i=k+(i+1)by omega]at this
theorem zAG {id:Nat} {Q:Exit->Act->World->Prop} {a:Act} {w:World} {l:List Oper} (n:Nat) (D:List Nat) (C:World->Prop) (S:World->World->Prop) (F:Nat->Value->World->Prop)
  (hm:P.follows .mixedOrders=true) (hB:zMx .any l.toArray n D=true)
  (hSC:∀ w w',S w w'->C w->C w') (hSF:∀ j v w w',S w w'->F j v w->F j v w')
  (hC:C { w with drawn:=w.drawn+1 })
  (hobl:FlowAll P .any l.toArray C S F a D 0 (l.take n))
  (htail:∀ us w',C w'->(∀ j,j<n->F j (us (zBQ l.toArray j)) w')->wpList P l.toArray Q (l.drop n) (fill a D us) w'):(Code.region id l.toArray true).wp P Q a w:=by
 simp only[zMx,Bool.and_eq_true,decide_eq_true_eq]at hB;obtain⟨⟨⟨⟨⟨hn,hs⟩,hc⟩,hd⟩,hnd⟩,hseq⟩:=hB;have hdl:(l.drop n).length=l.toArray.size-n:=by simp
 refine wp_region_any hm ?_;have inv0:HeadInv .any l.toArray n (Array.replicate l.toArray.size false) :=
  ⟨by simp,fun j oj _ hl=>(by rw[getD_replicate_false]at hl;cases hl),fun t _ ht=>getD_in (by simpa using ht) (getD_replicate_false _ _)⟩
 have hcnt:(List.range n).countP (unl' (Array.replicate l.toArray.size false))=n:=by
  have h1:∀ j∈List.range n,unl' (Array.replicate l.toArray.size false) j=true:=fun j hj=>by
   have hj':j<l.toArray.size:=Nat.lt_trans (List.mem_range.1 hj) hn
   show(!(Array.replicate l.toArray.size false).getD j true)=true
   rw[getD_in (by simpa using hj') (getD_replicate_false _ _)];rfl
  rw[List.countP_eq_length.2 h1,List.length_range]
 have hd':∀ j o,j<n->l.toArray[j]?=some o->(∃ d,o.dst=some d/\D.contains d=true)/\∀ k∈zCz .any o,k<j:=fun j o hj ho=>by
  have:=List.all_eq_true.1 hd j (List.mem_range.2 hj);rw[ho]at this;simp only[Bool.and_eq_true]at this;obtain⟨h1,h2⟩:=this;refine⟨?_,fun k hk=>by simpa using List.all_eq_true.1 h2 k hk⟩;cases hdst:o.dst with
  |none=>rw[hdst]at h1;cases h1
  |some d=>rw[hdst]at h1;exact⟨d,rfl,h1⟩
 have hnd':∀ i j,i<n->j<n->zBQ l.toArray i=zBQ l.toArray j->i=j:=fun i j hi hj he=>by
  have hp:=List.pairwise_map.1 hnd;rcases Nat.lt_trichotomy i j with h|h|h
  ·exact absurd he ((List.pairwise_iff_getElem.1 hp i j (by simpa using hi) (by simpa using hj) h) |>(by simpa using ·))
  ·exact h
  ·exact absurd he.symm ((List.pairwise_iff_getElem.1 hp j i (by simpa using hj) (by simpa using hi) h) |>(by simpa using ·))
 have hobl':∀ j o,j<n->l.toArray[j]?=some o->zDJ P .any l.toArray C S F a D j o:=fun j o hj ho=>by
  have:=hobl.at j o (by rw[List.getElem?_take,if_pos hj];simpa using ho);rwa [Nat.zero_add]at this
 have:=zDI (md:=.any) (Q:=Q) hs hc hn hd' hnd' hSC hSF hobl' (fun us w' listed inv hall hC' hF'=>by
  have he:listed=zB8 n l.toArray.size:=by
   apply Array.ext
   ·rw[inv.size];simp[zB8]
   ·intro j h1 h2;have hjs:j<l.toArray.size:=by rw[<-inv.size];exact h1
    simp only[zB8,List.getElem_toArray,List.getElem_map,List.getElem_range];rcases Nat.lt_or_ge j n with h|h
    ·have:=hall j h;simp[h1]at this;simp[this,h]
    ·have:=inv.tail j h hjs;simp[h1]at this;simp[this];omega
  have h:=wpAny_of_seq (md:=.any) (Q':=Q) (l.drop n) n listed (fill a D us) w' (fun j=>by simp[List.getElem?_drop]) (by rw[hdl,he];exact hseq) (htail us w' hC' hF');rwa [hdl]at h) n _ (fun k=>a.tmps.getD k undef) _ inv0 hcnt hC (fun j hj hl=>by
   rw[getD_in (by simpa using Nat.lt_trans hj hn) (getD_replicate_false _ _)]at hl;cases hl)
 rw[zHP,show n+(l.toArray.size-n)=l.toArray.size by omega]at this;exact this
end
section
variable {P:Program} {ops:Array Oper} {md:Region.Mode} {C:World->Prop} {S:World->World->Prop} {F:Nat->Value->World->Prop} {a0:Act} {D:List Nat} {j:Nat} {o:Oper}
theorem fill_tmp {us:Nat->Value} {d:Nat} (hd:D.contains d=true) (hl:d<a0.tmps.size):(fill a0 D us).eval (.tmp d)=us d:=by
 show(fill a0 D us).tmps.getD d undef=us d
 simp[fill,hl];intro h;exact absurd (by simpa using hd) h
theorem fill_at {us:Nat->Value} {d:Nat} (hd:D.contains d=true) (hl:d<a0.tmps.size):(fill a0 D us).tmps[d]?=some (us d):=by
 simp[fill,hl];intro h;exact absurd (by simpa using hd) h
theorem fill_old {us:Nat->Value} {d:Nat} (hd:D.contains d=false):(fill a0 D us).eval (.tmp d)=a0.eval (.tmp d):=by
 have hd':¬ d∈D:=by simpa using hd
 show(fill a0 D us).tmps.getD d undef=a0.tmps.getD d undef
 rcases Nat.lt_or_ge d a0.tmps.size with h|h
 ·simp[fill,h,hd']
 ·have h2:(fill a0 D us).tmps.size<=d:=by simp[fill];exact h
  simp[Array.getD,Nat.not_lt.2 h,Nat.not_lt.2 h2]
def zEF (ops:Array Oper) (o:Oper) (a0:Act) (D:List Nat) (us:Nat->Value):Prop:=Region.wanted o (yielded ops (fill a0 D us).tmps)=true
theorem zAf {us:Nat->Value} (h:o.guard=none):zEF ops o a0 D us:=by simp[zEF,Region.wanted,h]
theorem zAT {us:Nat->Value} {k d:Nat} {b:Bool} (h:o.guard=some (k,b)) (hk:(ops[k]?).bind (·.dst)=some d) (hd:D.contains d=true) (hl:d<a0.tmps.size) (hu:us d=.bool b):zEF ops o a0 D us:=by
 unfold zEF Region.wanted;rw[h];simp[yielded,hk,fill_at hd hl,hu]
theorem zAg (hw:∀ us w,C w->(∀ k,k∈zCz md o->F k (us (zBQ ops k)) w)->zEF ops o a0 D us)
  (h:∀ us w,C w->(∀ k,k∈zCz md o->F k (us (zBQ ops k)) w)->∃ v w',(execOp (fill a0 D us).eval o).run P w=.ok (.value v) w'/\S w w'/\F j v w'):zDJ P md ops C S F a0 D j o:=by
 intro us w hC hd Q hQ;obtain⟨v,w',hr,h1,h2⟩:=h us w hC hd;unfold wpList;rw[if_pos (show Region.wanted o (yielded ops (fill a0 D us).tmps)=true from hw us w hC hd)]
 left
 unfold Oper.wp;rw[hr];exact hQ v w' h1 h2
theorem zA7 (f:FuncId) (args:(Nat->Value)->Array Value) (hw:∀ us w,C w->(∀ k,k∈zCz md o->F k (us (zBQ ops k)) w)->zEF ops o a0 D us)
  (hr:∀ us w,(execOp (fill a0 D us).eval o).run P w=.ok (.enter f (args us)) w)
  (h:∀ us w,C w->(∀ k,k∈zCz md o->F k (us (zBQ ops k)) w)->Calls P f (args us) w fun e w'=>∃ v,e=.returned v/\S w w'/\F j v w'):zDJ P md ops C S F a0 D j o:=by
 intro us w hC hd Q hQ;unfold wpList;rw[if_pos (show Region.wanted o (yielded ops (fill a0 D us).tmps)=true from hw us w hC hd)]
 left
 unfold Oper.wp;rw[hr];refine(h us w hC hd).mono ?_;rintro e w' ⟨v,rfl,h1,h2⟩;exact hQ v w' h1 h2
end
open Go.RowKit
section
variable {P:Program}
end
open Go Go.RowKit
section
variable {P:Program} {a:Act} {o:Oper} {w:World}
theorem zAz {x:Operand} {v:Value} (ho:o.op=.move x) (hx:a.eval x=v):(execOp a.eval o).run P w=.ok (.value v) w:=by
 simp[execOp,ho,hx,Sem.run_pure]
theorem zGQ {ty t:TypeId} {x:Operand} {b:Nat} {cs:Array Value} {fr:Nat×Nat} {d:TypeDesc} (ho:o.op=.load ty x) (hx:a.eval x=.pointer (some ⟨b,0,none⟩)) (h:w.heap[b]?=some (.cells cs t fr))
  (hu:P.underlying ty=some d) (hd:d.isRow=true) (hi:(P.info? ty).map (·.size)=some cs.size):(execOp a.eval o).run P w=.ok (.value (.agg cs)) w:=by
 have:=run_loadVar_mid (P:=P) w b 0 ty cs.toList d (zE8 h) hu hd (by simpa using hi);simp only[Array.toArray_toList]at this;simp[execOp,ho,hx,Instr.loadAt,Instr.sureAddr,Result.andThen_ok,this]
theorem pick_true {c x y:Operand} {v:Value} (ho:o.op=.pick c x y) (hc:a.eval c=.bool true) (hx:a.eval x=v):(execOp a.eval o).run P w=.ok (.value v) w:=by
 simp[execOp,ho,hc,hx,Sem.run_pure,asBool]
theorem zAX {f:FuncId} {xs:Array Operand} {ts:Array TypeId} (ho:o.op=.call { callee:=.value (.func f),args:=xs,argTypes:=ts }) (hc:∀ args w,(callFunc f args).run P w=.ok (.enter f args) w) :
  (execOp a.eval o).run P w=.ok (.enter f (xs.map a.eval)) w:=by
 simp only[execOp,ho];rw[<-hc];simp[resolve,invoke,Act.eval,Deferred.ofValue]
theorem zHY {t e:TypeId} {x:Operand} {v:Value} (ho:o.op=.buildSlice t 1 #[(0,x)]) (hx:a.eval x=v) (hb:(Instr.buildSlice t 1 #[(0,v)]).run P w=.ok (.slice (some ⟨w.heap.size,0,none⟩) 1 1) (w.alloc (.cells #[v] e))) :
  (execOp a.eval o).run P w=.ok (.value (.slice (some ⟨w.heap.size,0,none⟩) 1 1)) (w.alloc (.cells #[v] e)):=by
 simp only[execOp,ho,List.map_toArray,List.map_cons,List.map_nil,hx];simp[Result.andThen,hb]
theorem assign_val {x:Operand} {v:Value} (ho:o.op=.assign x) (hx:a.eval x=v):(execOp a.eval o).run P w=.ok (.value v) w:=by
 simp[execOp,ho,hx,Sem.run_pure]
theorem wpList_last {ops:Array Oper} {Q:Exit->Act->World->Prop} {v:Value} (hg:o.guard=none) (hr:(execOp a.eval o).run P w=.ok (.value v) w) (h:Q .normal (a.put o.dst v) w):wpList P ops Q [o] a w:=by
 refine wpList_plain hg fun K hK=>?_
 unfold Oper.wp;rw[hr];exact hK _ _ h
theorem zJr (a0:Act) (D:List Nat) (us:Nat->Value):(fill a0 D us).tmps.size=a0.tmps.size:=by simp[fill]
theorem zLv {d:Nat} {v:Value} (h:d<a.tmps.size):(a.put (some d) v).tmps.getD d undef=v:=by
 show(a.tmps.setIfInBounds d v).getD d undef=v
 simp[h]
end
end Go.Proofs.YtijkaknggdaajaaGreatDoor
namespace Go.Proofs
open Go.Shelf
def Tryz.lays196_ren:Go.Shelf.Ren:=⟨fun|196=>183|259=>200|n=>n,fun|9=>9|4=>4|3=>3|5=>5|12=>12|119=>244|0=>0|46=>190|139=>247|138=>246|53=>189|n=>n,fun|3=>30|4=>31|n=>n⟩
theorem Tryz.lays196:Go.Proofs.Lays.n196 prog Tryz.lays196_ren:={
 mixed:=by kernel_rfl
 f196:=func183.trans (congrArg some (by kernel_rfl))
 f259:=func200.trans (congrArg some (by kernel_rfl))
 t0:=underlying0
 a0:=isAgg0
 z0:=sizeOf0
 v0:=zeroValue0
 t3:=underlying3
 a3:=isAgg3
 z3:=sizeOf3
 v3:=zeroValue3
 t4:=underlying4
 a4:=isAgg4
 z4:=sizeOf4
 v4:=zeroValue4
 t5:=underlying5
 a5:=isAgg5
 z5:=sizeOf5
 v5:=zeroValue5
 t9:=underlying9
 a9:=isAgg9
 z9:=sizeOf9
 v9:=zeroValue9
 t12:=underlying12
 a12:=isAgg12
 z12:=sizeOf12
 v12:=zeroValue12
 t46:=underlying190
 a46:=isAgg190
 z46:=sizeOf190
 v46:=zeroValue190
 t53:=underlying189
 a53:=isAgg189
 z53:=sizeOf189
 v53:=zeroValue189
 t119:=underlying244
 a119:=isAgg244
 z119:=sizeOf244
 t138:=underlying246
 a138:=isAgg246
 z138:=sizeOf246
 v138:=zeroValue246
 t139:=underlying247
 a139:=isAgg247
 z139:=sizeOf247
 v139:=zeroValue247
 g3:=by kernel_rfl
 g4:=by kernel_rfl }
def Tryz.laysSort_ren:Go.Shelf.Ren:=⟨fun|6=>146|15=>144|14=>168|28=>166|29=>167|20=>184|21=>185|22=>186|23=>187|24=>188|25=>189|26=>190|27=>191|46=>201|47=>202|48=>203|49=>204|50=>205|57=>213|n=>n,fun|22=>81|24=>33|25=>202|3=>3|39=>190|0=>0|53=>216|55=>189|4=>4|46=>232|45=>231|50=>192|5=>5|9=>9|66=>248|70=>252|76=>257|77=>104|n=>n,fun|n=>n⟩
theorem Tryz.laysSort:Go.Proofs.SlLaysF.n6 prog Tryz.laysSort_ren:={
 mixed:=by kernel_rfl
 f6:=⟨Tryz.f146.name,by decide,func146.trans (congrArg some (by kernel_rfl))⟩
 f14:=⟨Tryz.f168.name,by decide,func168.trans (congrArg some (by kernel_rfl))⟩
 f15:=func144.trans (congrArg some (by kernel_rfl))
 f20:=⟨Tryz.f184.name,by decide,func184.trans (congrArg some (by kernel_rfl))⟩
 f21:=⟨Tryz.f185.name,by decide,func185.trans (congrArg some (by kernel_rfl))⟩
 f22:=⟨Tryz.f186.name,by decide,func186.trans (congrArg some (by kernel_rfl))⟩
 f23:=⟨Tryz.f187.name,by decide,func187.trans (congrArg some (by kernel_rfl))⟩
 f24:=⟨Tryz.f188.name,by decide,func188.trans (congrArg some (by kernel_rfl))⟩
 f25:=⟨Tryz.f189.name,by decide,func189.trans (congrArg some (by kernel_rfl))⟩
 f26:=⟨Tryz.f190.name,by decide,func190.trans (congrArg some (by kernel_rfl))⟩
 f27:=⟨Tryz.f191.name,by decide,func191.trans (congrArg some (by kernel_rfl))⟩
 f28:=func166.trans (congrArg some (by kernel_rfl))
 f29:=func167.trans (congrArg some (by kernel_rfl))
 f46:=⟨Tryz.f201.name,by decide,func201.trans (congrArg some (by kernel_rfl))⟩
 f47:=func202.trans (congrArg some (by kernel_rfl))
 f48:=func203.trans (congrArg some (by kernel_rfl))
 f49:=⟨Tryz.f204.name,by decide,func204.trans (congrArg some (by kernel_rfl))⟩
 f50:=⟨Tryz.f205.name,by decide,func205.trans (congrArg some (by kernel_rfl))⟩
 f57:=⟨Tryz.f213.name,by decide,func213.trans (congrArg some (by kernel_rfl))⟩
 t0:=underlying0
 a0:=isAgg0
 z0:=sizeOf0
 v0:=zeroValue0
 t3:=underlying3
 a3:=isAgg3
 z3:=sizeOf3
 v3:=zeroValue3
 t4:=underlying4
 a4:=isAgg4
 z4:=sizeOf4
 v4:=zeroValue4
 t5:=underlying5
 a5:=isAgg5
 z5:=sizeOf5
 v5:=zeroValue5
 t9:=underlying9
 a9:=isAgg9
 z9:=sizeOf9
 v9:=zeroValue9
 t22:=underlying81
 a22:=isAgg81
 z22:=sizeOf81
 v22:=zeroValue81
 a24:=isAgg33
 z24:=sizeOf33
 t25:=underlying202
 a25:=isAgg202
 z25:=sizeOf202
 v25:=zeroValue202
 t39:=underlying190
 a39:=isAgg190
 z39:=sizeOf190
 v39:=zeroValue190
 t45:=underlying231
 a45:=isAgg231
 z45:=sizeOf231
 v45:=zeroValue231
 t46:=underlying232
 a46:=isAgg232
 z46:=sizeOf232
 v46:=zeroValue232
 t50:=underlying192
 a50:=isAgg192
 z50:=sizeOf192
 v50:=zeroValue192
 t53:=underlying216
 a53:=isAgg216
 z53:=sizeOf216
 v53:=zeroValue216
 t55:=underlying189
 a55:=isAgg189
 z55:=sizeOf189
 v55:=zeroValue189
 t66:=underlying248
 a66:=isAgg248
 z66:=sizeOf248
 v66:=zeroValue248
 t70:=underlying252
 a70:=isAgg252
 z70:=sizeOf252
 v70:=zeroValue252
 t76:=underlying257
 a76:=isAgg257
 z76:=sizeOf257
 v76:=zeroValue257
 t77:=underlying104
 a77:=isAgg104
 z77:=sizeOf104
 v77:=zeroValue104 }
def Tryz.laysGrow_ren:Go.Shelf.Ren:=⟨fun|4=>148|n=>n,fun|22=>33|25=>5|3=>3|4=>4|9=>9|20=>20|0=>0|n=>n,fun|n=>n⟩
theorem Tryz.laysGrow:Go.Proofs.Lays8.n4 prog Tryz.laysGrow_ren:={
 mixed:=by kernel_rfl
 f4:=⟨Tryz.f148.name,by decide,func148.trans (congrArg some (by kernel_rfl))⟩
 t0:=underlying0
 a0:=isAgg0
 z0:=sizeOf0
 v0:=zeroValue0
 t3:=underlying3
 a3:=isAgg3
 z3:=sizeOf3
 v3:=zeroValue3
 t4:=underlying4
 a4:=isAgg4
 z4:=sizeOf4
 v4:=zeroValue4
 t9:=underlying9
 a9:=isAgg9
 z9:=sizeOf9
 v9:=zeroValue9
 t20:=underlying20
 a20:=isAgg20
 z20:=sizeOf20
 v20:=zeroValue20
 t22:=underlying33
 a22:=isAgg33
 z22:=sizeOf33
 v22:=zeroValue33 }
end Go.Proofs
namespace Go.Proofs.YtijkaknggdaajaaGreatDoor
open Go.Proofs.Tryz
open Lib (hid)
open Go.RowKit
section
variable {P:Program} {ops:Array Oper} {rest:List Oper} {o:Oper} {a:Act} {w:World} {Q:Exit->Act->World->Prop}
theorem zC1 (w:World) (e:TypeId) (s:ByteArray):w.grownBy (Lib.bytesWorld w e s) none :=
 ⟨by simp[Lib.bytesWorld,World.freeze];rfl,by simp[Lib.bytesWorld,World.freeze],by simp[Lib.bytesWorld,World.freeze];rfl,by rw[Lib.bytesWorld_size];omega,fun k hk _=>Lib.bytesWorld_at_old w e s k hk⟩
theorem zEJ (hgd:o.guard=none) (t u:TypeId) (x:Operand) (ho:o.op=.convert t u x) {e:TypeId} {d:TypeDesc} (ht:P.underlying t=some d) (hu:P.underlying u=some (.slice e)) (he:P.underlying e=some (.int .u8))
  (s:ByteArray) (hx:a.eval x=.string s) (h:∀ c w',w.grownBy w' none->Bytes w' (.slice (some ⟨w.heap.size,0,none⟩) s.size c) (strL s)->wpList P ops Q rest (a.put o.dst (.slice (some ⟨w.heap.size,0,none⟩) s.size c)) w'):wpList P ops Q (o :: rest) a w:=by
 have hr:=Lib.run_convert_string_bytes (P:=P) w t u e s ht hu he;refine wpList_plain hgd fun K hK=>?_
 unfold Oper.wp execOp;simp only[ho,Sem.run_bind,Sem.run_pure,Result.andThen_ok,hx,hr];refine hK _ _ (h _ _ (zC1 w e s) ⟨strL_lt s,some ⟨w.heap.size,0,none⟩,w.heap.size,0,_,by rw[zAx],by rw[zAx];exact grownCap_ge _ _ _ _,fun _=>⟨rfl,by rw[Lib.bytesWorld_size];omega⟩,fun j hj=>?_⟩);rw[Nat.zero_add,Lib.bytesWorld_cell w e s j (by rw[<-zAx];exact hj)]
 congr 3
 simp[strL];cases s.data[j]? <;> rfl
end
open Go.RowKit Go.Extern.Stop Go.Stop Go.Extern
noncomputable def zIq:Value:=.agg #[.pointer (some ⟨prog.globals.size,282,none⟩)]
theorem zGT (v:Value) (w:World):(Extern.ReflectliteType.typeOf #[.iface 282 v]).run prog w=.ok (.iface 180 zIq) w:=by kernel_rfl
noncomputable def zEC:Array Value->Sem Value:=Extern.ReflectliteType.method fun t=>do Extern.Rtype.noPackHeld "Comparable" t;pure (.bool (<-typeInfo t).comparable)
theorem zCZ (w:World):(zEC #[zIq]).run prog w=.ok (.bool true) w:=by kernel_rfl
theorem zGU (n:Nat) (v:Value) (w:World):(Go.method (n+1) 180 v "Comparable").run prog w=.ok (258,v) w:=by kernel_rfl
theorem zKV:(prog.info? 282).map (·.comparable)=some true:=by kernel_rfl
theorem zKU:(prog.info? 284).map (·.size)=some 1:=by kernel_rfl
theorem zMQ (v:Value) (xT:TypeId) (w:World):(Instr.typeAssert (.iface 282 v) xT 182 true).run prog w=.ok (.tuple #[.nilIface,.bool false]) w:=run_typeAssert_lacksB underlying182 (by kernel_rfl) (by kernel_rfl) v xT w
theorem zI6 (v:Value) (xT:TypeId) (w:World):(Instr.typeAssert (.iface 282 v) xT 185 true).run prog w=.ok (.tuple #[.nilIface,.bool false]) w:=run_typeAssert_lacksB underlying185 (by kernel_rfl) (by kernel_rfl) v xT w
theorem zHJ (v:Value) (xT:TypeId) (w:World):(Instr.typeAssert (.iface 282 v) xT 186 true).run prog w=.ok (.tuple #[.nilIface,.bool false]) w:=run_typeAssert_lacksB underlying186 (by kernel_rfl) (by kernel_rfl) v xT w
theorem zLN (a:Addr) (w:World) :
  Calls prog 46 #[.iface 282 (.pointer (some a)),.iface 282 (.pointer (some a))] w fun e w'=>e=.returned (.bool true)/\w'=w:=by
 obtain⟨i,hi,hcmp⟩:=Option.map_eq_some_iff.1 zKV;obtain⟨j,hj,hjs⟩:=Option.map_eq_some_iff.1 zKU;have h8:=@run_callFunc_extern prog 87 _ Extern.ReflectliteType.typeOf func87 (by kernel_rfl) (by kernel_rfl) (by kernel_rfl) (by kernel_rfl);have h32:=@run_callFunc_extern prog 258 _ zEC func258 (by kernel_rfl) (by kernel_rfl) (by kernel_rfl) (by kernel_rfl);have tT:=zGT;have cT:=zCZ;have mR:=zGU;have heq:=run_eql_iface_ptr_same (P:=prog) w a underlying28 underlying282 hi hcmp hj;go_enter func46,ntmps46
 go_wp2
 refine wp_loop_rounds 1 ?_;rw[rounds_succ];go_wp2
 go_ret
 exact⟨rfl,rfl⟩
theorem zKk (a b:Addr) (ca cb:Array Value) (ta tb:TypeId) (w:World) (hne:a≠b) (ha:w.heap[a.block]?=some (.cells ca ta (0,0))) (hb:w.heap[b.block]?=some (.cells cb tb (0,0))) :
  Calls prog 46 #[.iface 282 (.pointer (some a)),.iface 282 (.pointer (some b))] w fun e w'=>e=.returned (.bool false)/\w'=w:=by
 obtain⟨i,hi,hcmp⟩:=Option.map_eq_some_iff.1 zKV;obtain⟨j,hj,hjs⟩:=Option.map_eq_some_iff.1 zKU;have h8:=@run_callFunc_extern prog 87 _ Extern.ReflectliteType.typeOf func87 (by kernel_rfl) (by kernel_rfl) (by kernel_rfl) (by kernel_rfl);have h32:=@run_callFunc_extern prog 258 _ zEC func258 (by kernel_rfl) (by kernel_rfl) (by kernel_rfl) (by kernel_rfl);have tT:=zGT;have cT:=zCZ;have mR:=zGU;have nE:=zMQ;have uE:=zI6;have vE:=zHJ;have heq:=run_eql_iface_ptr_other (P:=prog) w underlying28 underlying282 hi hcmp hj (by rw[hjs];decide) hne ha hb;go_enter func46,ntmps46
 go_wp2
 refine wp_loop_rounds 1 ?_;rw[rounds_succ];go_wp2
 go_ret
 exact⟨rfl,rfl⟩
def errVars:List Nat:=[2,3,4,5,6,7,8,9,0,10,11,12,13,14,15,16,17,18,19,20,21,22,23,24,25,26,27,28]
structure AllErrs (w:World) (A:Nat->Addr):Prop where
 at_:∀ i,i<28->w.cell? ⟨errVars.getD i 0,0,none⟩=some (.iface 282 (.pointer (some (A i))))
 lt:∀ i,i<28->errVars.getD i 0<w.heap.size
 there:∀ i,i<28->∃ cs t,w.heap[(A i).block]?=some (.cells cs t (0,0))
 apart:∀ i j,i<28->j<28->i≠j->A i≠A j
theorem AllErrs.grown {w w':World} {A:Nat->Addr} (h:AllErrs w A) (hg:w.grownBy w' none):AllErrs w' A :=
 ⟨fun i hi=>by rw[World.cell?_of_block (hg.block _ (h.lt i hi) (by simp))];exact h.at_ i hi,fun i hi=>Nat.lt_of_lt_of_le (h.lt i hi) hg.size,
 fun i hi=>by obtain⟨cs,t,hb⟩:=h.there i hi;exact⟨cs,t,(hg.block _ (zAi hb) (by simp)).trans hb⟩,h.apart⟩
theorem zLE (w:World):Calls prog 13 #[.nilIface] w fun e w'=>e=.returned (.int .i64 0)/\w'=w:=by
 go_enter func13,ntmps13
 go_wp2
 go_ret
 exact⟨rfl,rfl⟩
theorem zLF (A:Nat->Addr) (i:Nat) (hi:i<28) (w:World) (hA:AllErrs w A) :
  Calls prog 13 #[.iface 282 (.pointer (some (A i)))] w fun e w'=>e=.returned (.int .i64 ((i+1:Nat):Int))/\w.grownBy w' none:=by
 have e0:=hA.at_ 0 (by decide);have e1:=hA.at_ 1 (by decide);have e2:=hA.at_ 2 (by decide);have e3:=hA.at_ 3 (by decide);have e4:=hA.at_ 4 (by decide);have e5:=hA.at_ 5 (by decide);have e6:=hA.at_ 6 (by decide);have e7:=hA.at_ 7 (by decide);have e8:=hA.at_ 8 (by decide);have e9:=hA.at_ 9 (by decide);have e10:=hA.at_ 10 (by decide);have e11:=hA.at_ 11 (by decide);have e12:=hA.at_ 12 (by decide);have e13:=hA.at_ 13 (by decide);have e14:=hA.at_ 14 (by decide);have e15:=hA.at_ 15 (by decide);have e16:=hA.at_ 16 (by decide);have e17:=hA.at_ 17 (by decide);have e18:=hA.at_ 18 (by decide);have e19:=hA.at_ 19 (by decide);have e20:=hA.at_ 20 (by decide);have e21:=hA.at_ 21 (by decide);have e22:=hA.at_ 22 (by decide);have e23:=hA.at_ 23 (by decide);have e24:=hA.at_ 24 (by decide);have e25:=hA.at_ 25 (by decide);have e26:=hA.at_ 26 (by decide);have e27:=hA.at_ 27 (by decide);simp only[errVars,List.getD_cons_zero,List.getD_cons_succ]at e0 e1 e2 e3 e4 e5 e6 e7 e8 e9 e10 e11 e12 e13 e14 e15 e16 e17 e18 e19 e20 e21 e22 e23 e24 e25 e26 e27;have HA:=hid hA;obtain⟨w1,hw1⟩:∃ w1,w1=w.alloc (.cells #[.iface 282 (.pointer (some (A 0))),.iface 282 (.pointer (some (A 1))),.iface 282 (.pointer (some (A 2))),.iface 282 (.pointer (some (A 3))),.iface 282 (.pointer (some (A 4))),.iface 282 (.pointer (some (A 5))),.iface 282 (.pointer (some (A 6))),.iface 282 (.pointer (some (A 7))),.iface 282 (.pointer (some (A 8))),.iface 282 (.pointer (some (A 9))),.iface 282 (.pointer (some (A 10))),.iface 282 (.pointer (some (A 11))),.iface 282 (.pointer (some (A 12))),.iface 282 (.pointer (some (A 13))),.iface 282 (.pointer (some (A 14))),.iface 282 (.pointer (some (A 15))),.iface 282 (.pointer (some (A 16))),.iface 282 (.pointer (some (A 17))),.iface 282 (.pointer (some (A 18))),.iface 282 (.pointer (some (A 19))),.iface 282 (.pointer (some (A 20))),.iface 282 (.pointer (some (A 21))),.iface 282 (.pointer (some (A 22))),.iface 282 (.pointer (some (A 23))),.iface 282 (.pointer (some (A 24))),.iface 282 (.pointer (some (A 25))),.iface 282 (.pointer (some (A 26))),.iface 282 (.pointer (some (A 27)))] 28):=⟨_,rfl⟩
 have G1:Hid (w.grownBy w1 none):=hid (by rw[hw1];exact World.grownBy_alloc _ _ _);have B1:Hid (∀ k,k<28->w1.cell? ⟨w.heap.size,k,none⟩=some (.iface 282 (.pointer (some (A k))))):=hid (fun k hk=>by
  rw[hw1];refine cell_blk (alloc_at w _) k ?_
  match k,hk with
  |0,_=>rfl
  |1,_=>rfl
  |2,_=>rfl
  |3,_=>rfl
  |4,_=>rfl
  |5,_=>rfl
  |6,_=>rfl
  |7,_=>rfl
  |8,_=>rfl
  |9,_=>rfl
  |10,_=>rfl
  |11,_=>rfl
  |12,_=>rfl
  |13,_=>rfl
  |14,_=>rfl
  |15,_=>rfl
  |16,_=>rfl
  |17,_=>rfl
  |18,_=>rfl
  |19,_=>rfl
  |20,_=>rfl
  |21,_=>rfl
  |22,_=>rfl
  |23,_=>rfl
  |24,_=>rfl
  |25,_=>rfl
  |26,_=>rfl
  |27,_=>rfl
  |n+28,h=>omega)
 have HS:Hid (∀ w',w.grownBy w' none->Calls prog 46 #[.iface 282 (.pointer (some (A i))),.iface 282 (.pointer (some (A i)))] w' fun e w''=>e=.returned (.bool true)/\w''=w'):=hid (fun w' _=>zLN (A i) w');have HO:Hid (∀ k w',k<28->k≠i->w.grownBy w' none->Calls prog 46 #[.iface 282 (.pointer (some (A i))),.iface 282 (.pointer (some (A k)))] w' fun e w''=>e=.returned (.bool false)/\w''=w'):=hid (fun k w' hk hne hg=>by
  obtain⟨c1,t1,h1⟩:=(hA.grown hg).there i hi;obtain⟨c2,t2,h2⟩:=(hA.grown hg).there k hk;exact zKk (A i) (A k) c1 c2 t1 t2 w' (hA.apart i k hi hk (fun e=>hne e.symm)) h1 h2)
 have HW1:=hid hw1;clear hA hw1;go_enter func13,ntmps13
 go_wp2
 rw[<-HW1.out];clear e0 e1 e2 e3 e4 e5 e6 e7 e8 e9 e10 e11 e12 e13 e14 e15 e16 e17 e18 e19 e20 e21 e22 e23 e24 e25 e26 e27;go_loopw [39] (fun j wr=>∃ k:Nat,k<=i/\j=.int .i64 k/\wr=w1) (fun j _=>28-(intOf j).toNat)
 case atStart=>exact⟨0,Nat.zero_le _,rfl,rfl⟩
 case round =>
  obtain⟨k,hk,rfl,rfl⟩:=hrel;have c1:=B1.out k (by omega);by_cases hki:k=i
  ·subst hki;go_wp2_with (go_at_call 46;refine(HS.out _ G1.out).mono ?_;rintro e w2 ⟨rfl,rfl⟩)
   go_ret
   exact⟨by go_num,G1.out⟩
  ·go_wp2_with (go_at_call 46;refine(HO.out k _ (by omega) hki G1.out).mono ?_;rintro e w2 ⟨rfl,rfl⟩)
   go_roundw
   case rel=>exact⟨k+1,by omega,by go_num,by trivial⟩
   case measure=>simp[intOf];omega
abbrev errV (A:Nat->Addr) (k:Nat):Value:=.iface 282 (.pointer (some (A (k-1))))
theorem zAs {w:World} {A:Nat->Addr} (h:AllErrs w A) (k:Nat) (hk:k-1<28):w.cell? ⟨errVars.getD (k-1) 0,0,none⟩=some (errV A k):=h.at_ _ hk
theorem zDD {w:World} {A:Nat->Addr} (h:AllErrs w A):w.cell? ⟨2,0,none⟩=some (errV A 1):=zAs h 1 (by decide)
theorem zDC {w:World} {A:Nat->Addr} (h:AllErrs w A):w.cell? ⟨3,0,none⟩=some (errV A 2):=zAs h 2 (by decide)
theorem zG0 {w:World} {A:Nat->Addr} (h:AllErrs w A):w.cell? ⟨5,0,none⟩=some (errV A 4):=zAs h 4 (by decide)
structure RFErrs (w:World) (A:Nat->Addr):Prop where
 range:w.cell? ⟨2,0,none⟩=some (errV A 1)
 form:w.cell? ⟨5,0,none⟩=some (errV A 4)
theorem RFErrs.grown {w w':World} {A:Nat->Addr} (h:RFErrs w A) (hg:w.grownBy w' none):RFErrs w' A :=
 ⟨(World.cell?_of_block (hg.block _ (World.block_lt_of_cell? w _ h.range) (by simp))).trans h.range,(World.cell?_of_block (hg.block _ (World.block_lt_of_cell? w _ h.form) (by simp))).trans h.form⟩
theorem AllErrs.rf {w:World} {A:Nat->Addr} (h:AllErrs w A):RFErrs w A:=⟨zDD h,zG0 h⟩
def zAu (A:Nat->Addr) (k:Nat):Value:=if k=0 then .nilIface else errV A k
theorem zGP (A:Nat->Addr) (k:Nat) (hk:k<=28) (w:World) (hA:AllErrs w A) :
  Calls prog 13 #[zAu A k] w fun e w'=>e=.returned (.int .i64 k)/\w.grownBy w' none:=by
 unfold zAu;split
 ·rename_i h
  subst h;exact(zLE w).mono (by rintro e w' ⟨rfl,rfl⟩;exact⟨rfl,zAa _ _⟩)
 ·have h:=zLF A (k-1) (by omega) w hA;rw[show k-1+1=k by omega]at h;exact h
theorem zJ7 {w:World} {b:Nat} {lv ov:Value} (hb:w.heap[b]?=some (.cells #[lv,ov,.nilIface] 126 (0,0))) (A:Nat->Addr) (k:Nat):Calls prog 82 #[.pointer (some ⟨b,0,none⟩),errV A k] w fun e w'=>e=.returned (.tuple #[])/\w'=w.setCell ⟨b,2,none⟩ (errV A k):=by
 have c0:=cell_blk hb 0 rfl;have c1:=cell_blk hb 1 rfl;have c2:=cell_blk hb 2 rfl;have f2:=zAh hb 2;have hlt:=zAi hb;go_enter func82,ntmps82
 go_wp2
 go_returns
 exact⟨rfl,rfl⟩
theorem zLm {w:World} {b:Nat} {lv ov:Value} {A:Nat->Addr} {k:Nat} (hb:w.heap[b]?=some (.cells #[lv,ov,errV A k] 126 (0,0))) (x:Value):Calls prog 82 #[.pointer (some ⟨b,0,none⟩),x] w fun e w'=>e=.returned (.tuple #[])/\w'=w:=by
 have c0:=cell_blk hb 0 rfl;have c1:=cell_blk hb 1 rfl;have c2:=cell_blk hb 2 rfl;have f2:=zAh hb 2;have hlt:=zAi hb;go_enter func82,ntmps82
 go_wp2
 go_returns
 exact⟨rfl,rfl⟩
theorem zMf {w:World} {b:Nat} {lv ov:Value} (hb:w.heap[b]?=some (.cells #[lv,ov,.nilIface] 126 (0,0))):Calls prog 39 #[.pointer (some ⟨b,0,none⟩)] w fun e w'=>e=.returned .nilIface/\w'=w:=by
 have c0:=cell_blk hb 0 rfl;have c1:=cell_blk hb 1 rfl;have c2:=cell_blk hb 2 rfl;have f2:=zAh hb 2;have hlt:=zAi hb;go_enter func39,ntmps39
 go_wp2
 go_ret
 exact⟨rfl,rfl⟩
theorem zMe {w:World} {b:Nat} {lv ov:Value} {A:Nat->Addr} {k:Nat} (hb:w.heap[b]?=some (.cells #[lv,ov,errV A k] 126 (0,0))):Calls prog 39 #[.pointer (some ⟨b,0,none⟩)] w fun e w'=>e=.returned (errV A k)/\w'=w:=by
 have c0:=cell_blk hb 0 rfl;have c1:=cell_blk hb 1 rfl;have c2:=cell_blk hb 2 rfl;have f2:=zAh hb 2;have hlt:=zAi hb;go_enter func39,ntmps39
 go_wp2
 go_ret
 exact⟨rfl,rfl⟩
theorem zMg {w:World} {b:Nat} {lv ov:Value} {A:Nat->Addr} {k:Nat} (hb:w.heap[b]?=some (.cells #[lv,ov,errV A k] 126 (0,0))):Calls prog 41 #[.pointer (some ⟨b,0,none⟩)] w fun e w'=>e=.returned (errV A k)/\w'=w:=by
 have c0:=cell_blk hb 0 rfl;have c1:=cell_blk hb 1 rfl;have c2:=cell_blk hb 2 rfl;have f2:=zAh hb 2;have hlt:=zAi hb;go_enter func41,ntmps41
 go_wp2
 go_ret
 exact⟨rfl,rfl⟩
theorem zLl {w:World} {b:Nat} {ov:Value} {a:Option Addr} {n c:Nat} (hn:0<n) (hb:w.heap[b]?=some (.cells #[.slice a n c,ov,.nilIface] 126 (0,0))):Calls prog 120 #[.pointer (some ⟨b,0,none⟩)] w fun e w'=>e=.returned (.bool true)/\w'=w:=by
 have c0:=cell_blk hb 0 rfl;have c1:=cell_blk hb 1 rfl;have c2:=cell_blk hb 2 rfl;have f2:=zAh hb 2;have hlt:=zAi hb;have hn2:(0:Int)<(n:Int):=by omega
 go_enter func120,ntmps120
 go_wp2
 go_ret
 exact⟨rfl,rfl⟩
theorem zLk {w:World} {b:Nat} {lv ov:Value} {A:Nat->Addr} {k:Nat} (hb:w.heap[b]?=some (.cells #[lv,ov,errV A k] 126 (0,0))):Calls prog 120 #[.pointer (some ⟨b,0,none⟩)] w fun e w'=>e=.returned (.bool false)/\w'=w:=by
 have c0:=cell_blk hb 0 rfl;have c1:=cell_blk hb 1 rfl;have c2:=cell_blk hb 2 rfl;have f2:=zAh hb 2;have hlt:=zAi hb;go_enter func120,ntmps120
 go_wp2
 go_ret
 exact⟨rfl,rfl⟩
end Go.Proofs.YtijkaknggdaajaaGreatDoor
