import Derived.Test.YtjjbkpjjmbfdhaaGreatDoorZb01
import Derived.Maps.Keyed
import Derived.Maps.OwnSet
set_option linter.unusedVariables false
set_option linter.unusedSimpArgs false
namespace Go.Proofs.YtjjbkpjjmbfdhaaGreatDoor
open Go.RowKit Go.Maps
open Go.ChangeMaps (setBlock heap_setBlock_same heap_setBlock_other)
def MapL (w:World) (b:Nat) (L:List (Value×Value)):Prop:=∃ es clock,w.heap[b]?=some (.map es clock)∧es.toList.map (fun x=>(x.key,x.val))=L
section
variable {P:Program} {t k e:TypeId} {w:World} {b:Nat} {L:List (Value×Value)}
theorem MapL.lt (h:MapL w b L):b<w.heap.size:=by
 obtain ⟨es,clock,h1,_⟩:=h
 exact (Array.getElem?_eq_some_iff.1 h1).1
theorem mapL_of {w':World} (h:MapL w b L) (hb:w'.heap[b]?=w.heap[b]?):MapL w' b L:=by
 obtain ⟨es,clock,h1,h2⟩:=h
 exact ⟨es,clock,hb.trans h1,h2⟩
theorem mapL_new (w:World):MapL (w.alloc (.map #[] 0)) w.heap.size []:=⟨#[],0,(MapKept.heap_alloc w _).1,rfl⟩
theorem look_miss (K:Keyed P k) (ht:P.underlying t=some (.map k e)) {z:Value} (hz:(zeroValue e).run P w=.ok z w) (h:MapL w b L) (hk:∀ p∈L,∃ l,keyOf P k p.1=some l) {key:Value} {kl:Lit} (hkey:keyOf P k key=some kl) (hno:∀ p∈L,p.1≠key) (c:Bool) :
  (Instr.lookup t (.map (some b)) key c).run P w=.ok (if c then .tuple #[z,.bool false] else z) w:=by
 obtain ⟨es,clock,hb,rfl⟩:=h
 rcases K.find w hkey es.toList (fun x hx=>hk _ (List.mem_map.2 ⟨x,hx,rfl⟩)) with ⟨h1,h2⟩|⟨j,e0,h1,h2,h3⟩
 ·simp[Instr.lookup,run_underlying ht,MapKept.run_getObj_map hb,K.check w _ hkey,h1,hz,Result.andThen]
 ·exact absurd h3 (hno _ (List.mem_map.2 ⟨e0,List.mem_of_getElem? h2,rfl⟩))
theorem look_hit (K:Keyed P k) (ht:P.underlying t=some (.map k e)) (h:MapL w b L) (hk:∀ p∈L,∃ l,keyOf P k p.1=some l) {key v:Value} {kl:Lit} (hkey:keyOf P k key=some kl) (hin:(key,v)∈L) (huni:∀ p∈L,p.1=key→p.2=v) (c:Bool) :
  (Instr.lookup t (.map (some b)) key c).run P w=.ok (if c then .tuple #[v,.bool true] else v) w:=by
 obtain ⟨es,clock,hb,rfl⟩:=h
 rcases K.find w hkey es.toList (fun x hx=>hk _ (List.mem_map.2 ⟨x,hx,rfl⟩)) with ⟨h1,h2⟩|⟨j,e0,h1,h2,h3⟩
 ·obtain ⟨x,hx,he⟩:=List.mem_map.1 hin
  exact absurd (Prod.mk.inj he).1 (h2 x hx)
 ·have hv:e0.val=v:=huni _ (List.mem_map.2 ⟨e0,List.mem_of_getElem? h2,rfl⟩) h3
  simp[Instr.lookup,run_underlying ht,MapKept.run_getObj_map hb,K.check w _ hkey,h1,hv,Result.andThen]
theorem setB_at {o:Obj} (hb:b<w.heap.size):(setBlock w b o).heap[b]?=some o:=by
 show (w.heap.setIfInBounds b o)[b]?=some o
 rw[Array.getElem?_setIfInBounds_self];simp[hb]
theorem setB_grown (o:Obj):w.grownBy (setBlock w b o) (some b):=by
 refine ⟨rfl,rfl,rfl,by simp[setBlock],fun i hi hne=>?_⟩
 show (w.heap.setIfInBounds b o)[i]?=_
 rw[Array.getElem?_setIfInBounds_ne (fun e=>hne (by rw[e]))]
theorem mapL_set (hb:b<w.heap.size) (es:Array MapEntry) (clock:Nat):MapL (setBlock w b (.map es clock)) b (es.toList.map (fun x=>(x.key,x.val))):=⟨es,clock,setB_at hb,rfl⟩
theorem put_miss (K:Keyed P k) (ht:P.underlying t=some (.map k e)) (h:MapL w b L) (hk:∀ p∈L,∃ l,keyOf P k p.1=some l) {key v:Value} {kl:Lit} (hkey:keyOf P k key=some kl) (hno:∀ p∈L,p.1≠key) :
  ∃ es' clock',(∀ W:World,W.heap[b]?=w.heap[b]?→(Instr.mapUpdate t (.map (some b)) key v).run P W=.ok () (setBlock W b (.map es' clock')))∧es'.toList.map (fun x=>(x.key,x.val))=L++[(key,v)]:=by
 obtain ⟨es,clock,hb,rfl⟩:=h
 refine ⟨es.push { key:=key,val:=v,born:=clock },clock+1,fun W hW=>?_,by simp⟩
 have hbW:=hW.trans hb
 rcases K.find W hkey es.toList (fun x hx=>hk _ (List.mem_map.2 ⟨x,hx,rfl⟩)) with ⟨h1,h2⟩|⟨j,e0,h1,h2,h3⟩
 ·simp[Instr.mapUpdate,run_underlying ht,MapKept.run_getObj_map hbW,K.check W false hkey,h1,MapKept.run_setObj_map _ hbW,Result.andThen,setBlock]
 ·exact absurd h3 (hno _ (List.mem_map.2 ⟨e0,List.mem_of_getElem? h2,rfl⟩))
theorem wpList_upd {w':World} {ops:Array Oper} {rest:List Oper} {o:Oper} {a:Act} {Q:Exit→Act→World→Prop} (hg:o.guard=none) (m x v:Operand) (ho:o.op=Op.mapUpdate t m x v)
  (vm vx vv:Value) (hm:a.eval m=vm) (hx:a.eval x=vx) (hv:a.eval v=vv) (hr:(Instr.mapUpdate t vm vx vv).run P w=.ok () w') (h:wpList P ops Q rest (a.put o.dst undef) w'):wpList P ops Q (o :: rest) a w:=by
 refine wpList_plain hg fun K' hK'=>?_
 unfold Oper.wp
 simp[execOp,ho,hm,hx,hv,hr,Result.andThen]
 exact hK' _ _ h
end
end Go.Proofs.YtjjbkpjjmbfdhaaGreatDoor
