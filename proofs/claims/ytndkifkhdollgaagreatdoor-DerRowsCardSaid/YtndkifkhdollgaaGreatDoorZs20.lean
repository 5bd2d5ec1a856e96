import Derived.Test.YtndkifkhdollgaaGreatDoorZs19
import Derived.Deep.RegionHeld3
set_option linter.unusedVariables false
set_option linter.unusedSimpArgs false
namespace Go.Proofs.YtndkifkhdollgaaGreatDoor
open Go.RowKit
section
variable {P:Program}
theorem step_appV {w:World} {ops:Array Oper} {o:Oper} {a:Act} {K:Act→World→Prop} {Q:Exit→Act→World→Prop} {E:Prop} (hgd:o.guard=none) (s x:Operand) (t:TypeId)
  (ho:o.op=.call { callee:=.builtin .append,args:=#[s,x],argTypes:=#[t,t] })
  (base:Nat) (e:TypeId) (z:Value) (bytes:Nat) (ht:P.underlying t=some (.slice e)) (hi:(P.info? e).map (fun i=>(i.zero,i.size,i.bytes))=some (some z,1,bytes)) (hzs:z.cells.size=1) (hby:bytes≤64)
  (v:Value) (n:Nat) (xs:List Value) (hs:a.eval s=v) (hown:w.ownsRow base e 1 v n xs)
  (u:Value) (l:List Value) (hx:a.eval x=u) (hB:Vals w u l) (h0:Whole0 u) (h1:∀ y∈l,y.oneCell'=true)
  (h63:n+l.length≤1099511627776) (hbase:base≤w.heap.size)
  (h:∀ v' w',w'.ownsRow base e 1 v' (n+l.length) (xs++l)→w.grownBy w' v.ownBlock→K (a.put o.dst v') w'):if Region.wanted o (yielded ops a.tmps)=true then Oper.wp P o a w K Q else E:=by
 have hw:Region.wanted o (yielded ops a.tmps)=true:=by simp[Region.wanted,hgd]
 rw[if_pos hw]
 obtain ⟨i,h1',h2',h3',h4'⟩:=info_parts hi
 obtain ⟨ad,sb,so,c,rfl,hc,ha,hcell⟩:=hB
 match ad with
 |none =>
  obtain ⟨hn0,rfl⟩:=h0 _ _ rfl
  obtain rfl:=List.eq_nil_of_length_eq_zero hn0
  have hrun:=run_append_owned_none (P:=P) (w:=w) base t o.type e i 1 ht h1' v n xs hown
  have hx':a.eval x=.slice none 0 0:=hx
  have hK:=h v w (by simpa using hown) (grown_refl _ _)
  unfold Oper.wp
  simp[execOp,ho,resolve,invoke,builtin,hs,hx',hrun,Result.andThen]
  exact hK
 |some ad =>
  obtain ⟨v',w',hr,k1,k2,_⟩:=run_append_sharp (P:=P) w base t o.type e i z ht h1' h2' h3' hzs (by rw[h4'];exact hby) v n xs hown ad l.length c l rfl (fun j u' hj=>by
   have hjl:=(List.getElem?_eq_some_iff.1 hj).1
   obtain ⟨e1,_⟩:=ha (by omega)
   obtain rfl:=Option.some.inj e1
   rw[addr_addO,hcell j u' hj]) h1 h63 hbase
  unfold Oper.wp execOp
  simp only[ho,resolve,invoke,builtin,Sem.run_bind,Sem.run_pure,Result.andThen_ok,List.map_toArray,List.map_cons,List.map_nil,hs,hx,hr]
  exact h v' w' k1 k2
end
theorem cat_take (L:List (List Nat)) {j:Nat} (hj:j<L.length):(L.take (j+1)).flatten=(L.take j).flatten++L.getD j []:=by
 rw[Pt.sort_take L hj,List.flatten_append]
 simp
theorem Each.lt {w:World}:∀ {xs:List Value} {L:List (List Nat)},Each w xs L→∀ x∈L.flatten,x<256
 |[],[],_,x,hx=>by simp at hx
 |_ :: _,_ :: _,h,x,hx=>by
  rw[List.flatten_cons,List.mem_append] at hx
  rcases hx with hx|hx
  ·exact h.1.1.lt x hx
  ·exact h.2.lt x hx
end Go.Proofs.YtndkifkhdollgaaGreatDoor
