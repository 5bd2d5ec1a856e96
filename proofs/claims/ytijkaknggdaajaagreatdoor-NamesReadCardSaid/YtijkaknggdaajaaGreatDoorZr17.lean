import Derived.Test.YtijkaknggdaajaaGreatDoorZr15
import Derived.Test.YtijkaknggdaajaaGreatDoorZr16
import Derived.Deep.RegionHeld3
import Derived.Shelf.Strings.OnBuilder
import Derived.Shelf.Strings.Search3
import Derived.Shelf.Slices.Equal
import Derived.Test.YtijkaknggdaajaaGreatDoorProg
set_option linter.unusedVariables false
set_option linter.unusedSimpArgs false
namespace Go.Proofs.YtijkaknggdaajaaGreatDoor
open Go.RowKit
section
variable {P:Program}
theorem step_appV {w:World} {ops:Array Oper} {o:Oper} {a:Act} {K:Act→World→Prop} {Q:Exit→Act→World→Prop} {E:Prop} (hgd:o.guard=none) (s x:Operand) (t:TypeId)
  (ho:o.op=.call { callee:=.builtin .append,args:=#[s,x],argTypes:=#[t,t] })
  (base:Nat) (e:TypeId) (z:Value) (bytes:Nat) (ht:P.underlying t=some (.slice e)) (hi:(P.info? e).map (fun i=>(i.zero,i.size,i.bytes))=some (some z,1,bytes)) (hzs:z.cells.size=1) (hby:bytes≤64)
  (v:Value) (n:Nat) (xs:List Value) (hs:a.eval s=v) (hown:w.ownsRow base e 1 v n xs)
  (u:Value) (l:List Value) (hx:a.eval x=u) (hB:Vals w u l) (h0:Whole0 u) (h1:∀ y∈l,y.oneCell'=true)
  (h63:n+l.length≤1099511627776) (hbase:base≤w.heap.size)
  (h:∀ v' w',w'.ownsRow base e 1 v' (n+l.length) (xs++l)→w.grownBy w' v.ownBlock→K (a.put o.dst v') w'):if Region.wanted o (yielded ops a.tmps)=true then Oper.wp P o a w K Q else E:=by
 have hw:Region.wanted o (yielded ops a.tmps)=true:=by simp[Region.wanted,hgd]
 rw[if_pos hw]
 obtain ⟨i,h1',h2',h3',h4'⟩:=info_parts hi
 obtain ⟨ad,sb,so,c,rfl,hc,ha,hcell⟩:=hB
 match ad with
 |none =>
  obtain ⟨hn0,rfl⟩:=h0 _ _ rfl
  obtain rfl:=List.eq_nil_of_length_eq_zero hn0
  have hrun:=run_append_owned_none (P:=P) (w:=w) base t o.type e i 1 ht h1' v n xs hown
  have hx':a.eval x=.slice none 0 0:=hx
  have hK:=h v w (by simpa using hown) (grown_refl _ _)
  unfold Oper.wp
  simp[execOp,ho,resolve,invoke,builtin,hs,hx',hrun,Result.andThen]
  exact hK
 |some ad =>
  obtain ⟨v',w',hr,k1,k2,_⟩:=run_append_sharp (P:=P) w base t o.type e i z ht h1' h2' h3' hzs (by rw[h4'];exact hby) v n xs hown ad l.length c l rfl (fun j u' hj=>by
   have hjl:=(List.getElem?_eq_some_iff.1 hj).1
   obtain ⟨e1,_⟩:=ha (by omega)
   obtain rfl:=Option.some.inj e1
   rw[addr_addO,hcell j u' hj]) h1 h63 hbase
  unfold Oper.wp execOp
  simp only[ho,resolve,invoke,builtin,Sem.run_bind,Sem.run_pure,Result.andThen_ok,List.map_toArray,List.map_cons,List.map_nil,hs,hx,hr]
  exact h v' w' k1 k2
end
theorem cat_take (L:List (List Nat)) {j:Nat} (hj:j<L.length):(L.take (j+1)).flatten=(L.take j).flatten++L.getD j []:=by
 rw[Pt.sort_take L hj,List.flatten_append]
 simp
theorem Each.lt {w:World}:∀ {xs:List Value} {L:List (List Nat)},Each w xs L→∀ x∈L.flatten,x<256
 |[],[],_,x,hx=>by simp at hx
 |_ :: _,_ :: _,h,x,hx=>by
  rw[List.flatten_cons,List.mem_append] at hx
  rcases hx with hx|hx
  ·exact h.1.1.lt x hx
  ·exact h.2.lt x hx
end Go.Proofs.YtijkaknggdaajaaGreatDoor
namespace Go.Proofs
open Go.Shelf
def Tryz.lays156_ren:Go.Shelf.Ren:=⟨fun|156=>176|165=>195|166=>196|169=>197|240=>207|241=>208|276=>215|277=>216|n=>n,fun|31=>141|9=>9|3=>3|4=>4|0=>0|20=>20|72=>241|76=>167|70=>239|37=>33|75=>28|127=>254|164=>260|5=>5|80=>135|n=>n,fun|n=>n⟩
theorem Tryz.lays156:Go.Proofs.Lays.n156 Tryz.prog Tryz.lays156_ren:={
 mixed:=by kernel_rfl
 f156:=Tryz.func176.trans (congrArg some (by kernel_rfl))
 f165:=Tryz.func195.trans (congrArg some (by kernel_rfl))
 f166:=Tryz.func196.trans (congrArg some (by kernel_rfl))
 f169:=Tryz.func197.trans (congrArg some (by kernel_rfl))
 f240:=Tryz.func207.trans (congrArg some (by kernel_rfl))
 f241:=Tryz.func208.trans (congrArg some (by kernel_rfl))
 f276:=Tryz.func215.trans (congrArg some (by kernel_rfl))
 f277:=Tryz.func216.trans (congrArg some (by kernel_rfl))
 t0:=Tryz.underlying0
 a0:=Tryz.isAgg0
 z0:=Tryz.sizeOf0
 v0:=Tryz.zeroValue0
 t3:=Tryz.underlying3
 a3:=Tryz.isAgg3
 z3:=Tryz.sizeOf3
 v3:=Tryz.zeroValue3
 t4:=Tryz.underlying4
 a4:=Tryz.isAgg4
 z4:=Tryz.sizeOf4
 v4:=Tryz.zeroValue4
 t9:=Tryz.underlying9
 a9:=Tryz.isAgg9
 z9:=Tryz.sizeOf9
 v9:=Tryz.zeroValue9
 t20:=Tryz.underlying20
 a20:=Tryz.isAgg20
 z20:=Tryz.sizeOf20
 v20:=Tryz.zeroValue20
 t31:=Tryz.underlying141
 a31:=Tryz.isAgg141
 z31:=Tryz.sizeOf141
 v31:=Tryz.zeroValue141
 t37:=Tryz.underlying33
 a37:=Tryz.isAgg33
 z37:=Tryz.sizeOf33
 v37:=Tryz.zeroValue33
 t70:=Tryz.underlying239
 a70:=Tryz.isAgg239
 z70:=Tryz.sizeOf239
 v70:=Tryz.zeroValue239
 t72:=Tryz.underlying241
 a72:=Tryz.isAgg241
 z72:=Tryz.sizeOf241
 v72:=Tryz.zeroValue241
 t75:=Tryz.underlying28
 a75:=Tryz.isAgg28
 z75:=Tryz.sizeOf28
 v75:=Tryz.zeroValue28
 t76:=Tryz.underlying167
 a76:=Tryz.isAgg167
 z76:=Tryz.sizeOf167
 v76:=Tryz.zeroValue167
 t127:=Tryz.underlying254
 a127:=Tryz.isAgg254
 z127:=Tryz.sizeOf254
 v127:=Tryz.zeroValue254
 t164:=Tryz.underlying260
 a164:=Tryz.isAgg260
 z164:=Tryz.sizeOf260
 v164:=Tryz.zeroValue260 }
theorem Tryz.Builder_Extra_156:Builder.Extra Tryz.prog Tryz.lays156_ren:={
 sizeBuilder:=by kernel_rfl
 liesBuilder:=by kernel_rfl
 t5:=Tryz.underlying5
 a5:=Tryz.isAgg5
 z5:=Tryz.sizeOf5
 v5:=Tryz.zeroValue5
 infoByte:=by kernel_rfl
 cellsByte:=by kernel_rfl
 sizeByte:=by kernel_rfl
 neB5:=by decide }
end Go.Proofs
namespace Go.Proofs.YtijkaknggdaajaaGreatDoor
open Go.RowKit
end Go.Proofs.YtijkaknggdaajaaGreatDoor
