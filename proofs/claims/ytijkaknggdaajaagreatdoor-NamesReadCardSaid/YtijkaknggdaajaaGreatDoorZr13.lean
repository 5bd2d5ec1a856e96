import Derived.Test.YtijkaknggdaajaaGreatDoorZr03
import Derived.Test.YtijkaknggdaajaaGreatDoorZr12
import Derived.Laws.StructEq
import Derived.WalkKit
import Derived.Shelf.Unicode.ValidAny
import Derived.Shelf.SlSortCmp.Whole1
import Derived.Shelf.SlSortCmp.NoneTotal
import Derived.Shelf.SlCmpFuncs.IsSortedFunc
import Derived.Shelf.SlicesE.Clone
import Derived.Shelf.Spec.SlicesGrow
import Derived.Test.YtijkaknggdaajaaGreatDoorProg
import Derived.Lib.ConvBytes
set_option linter.unusedVariables false
set_option linter.unusedSimpArgs false
namespace Go.Proofs.YtijkaknggdaajaaGreatDoor
open Go.RowKit
section
variable {P:Program}
end
end Go.Proofs.YtijkaknggdaajaaGreatDoor
namespace Go.Proofs.YtijkaknggdaajaaGreatDoor
open Go Go.RowKit
section
variable {P:Program} {a:Act} {o:Oper} {w:World}
theorem move_val {x:Operand} {v:Value} (ho:o.op=.move x) (hx:a.eval x=v):(execOp a.eval o).run P w=.ok (.value v) w:=by
 simp[execOp,ho,hx,Sem.run_pure]
theorem load_val {ty t:TypeId} {x:Operand} {b:Nat} {cs:Array Value} {fr:Nat×Nat} {d:TypeDesc} (ho:o.op=.load ty x) (hx:a.eval x=.pointer (some ⟨b,0,none⟩)) (h:w.heap[b]?=some (.cells cs t fr))
  (hu:P.underlying ty=some d) (hd:d.isRow=true) (hi:(P.info? ty).map (·.size)=some cs.size):(execOp a.eval o).run P w=.ok (.value (.agg cs)) w:=by
 have:=run_loadVar_mid (P:=P) w b 0 ty cs.toList d (range_all h) hu hd (by simpa using hi)
 simp only[Array.toArray_toList] at this
 simp[execOp,ho,hx,Instr.loadAt,Instr.sureAddr,Result.andThen_ok,this]
theorem pick_true {c x y:Operand} {v:Value} (ho:o.op=.pick c x y) (hc:a.eval c=.bool true) (hx:a.eval x=v):(execOp a.eval o).run P w=.ok (.value v) w:=by
 simp[execOp,ho,hc,hx,Sem.run_pure,asBool]
theorem eqlstr_val {t r:TypeId} {x y:Operand} {s:ByteArray} (ho:o.op=.binOp .eql t x y r) (hx:a.eval x=.string s) (hy:a.eval y=.string s):(execOp a.eval o).run P w=.ok (.value (.bool true)) w:=by
 simp only[execOp,ho,hx,hy]
 simp[eqGuard,Sem.run_pure,binOp,Op.stringOp]
theorem call_enter {f:FuncId} {xs:Array Operand} {ts:Array TypeId} (ho:o.op=.call { callee:=.value (.func f),args:=xs,argTypes:=ts }) (hc:∀ args w,(callFunc f args).run P w=.ok (.enter f args) w) :
  (execOp a.eval o).run P w=.ok (.enter f (xs.map a.eval)) w:=by
 simp only[execOp,ho]
 rw[←hc]
 simp[resolve,invoke,Act.eval,Deferred.ofValue]
theorem build1_val {t e:TypeId} {x:Operand} {v:Value} (ho:o.op=.buildSlice t 1 #[(0,x)]) (hx:a.eval x=v) (hb:(Instr.buildSlice t 1 #[(0,v)]).run P w=.ok (.slice (some ⟨w.heap.size,0,none⟩) 1 1) (w.alloc (.cells #[v] e))) :
  (execOp a.eval o).run P w=.ok (.value (.slice (some ⟨w.heap.size,0,none⟩) 1 1)) (w.alloc (.cells #[v] e)):=by
 simp only[execOp,ho,List.map_toArray,List.map_cons,List.map_nil,hx]
 simp[Result.andThen,hb]
theorem assign_val {x:Operand} {v:Value} (ho:o.op=.assign x) (hx:a.eval x=v):(execOp a.eval o).run P w=.ok (.value v) w:=by
 simp[execOp,ho,hx,Sem.run_pure]
theorem wpList_last {ops:Array Oper} {Q:Exit→Act→World→Prop} {v:Value} (hg:o.guard=none) (hr:(execOp a.eval o).run P w=.ok (.value v) w) (h:Q .normal (a.put o.dst v) w):wpList P ops Q [o] a w:=by
 refine wpList_plain hg fun K hK=>?_
 unfold Oper.wp
 rw[hr]
 exact hK _ _ h
theorem fill_size (a0:Act) (D:List Nat) (us:Nat→Value):(fill a0 D us).tmps.size=a0.tmps.size:=by simp[fill]
theorem put_get {d:Nat} {v:Value} (h:d<a.tmps.size):(a.put (some d) v).tmps.getD d undef=v:=by
 show (a.tmps.setIfInBounds d v).getD d undef=v
 simp[h]
end
end Go.Proofs.YtijkaknggdaajaaGreatDoor
namespace Go.Proofs
open Go.Shelf
def Tryz.lays196_ren:Go.Shelf.Ren:=⟨fun|196=>183|259=>200|n=>n,fun|9=>9|4=>4|3=>3|5=>5|12=>12|119=>244|0=>0|46=>190|139=>247|138=>246|53=>189|n=>n,fun|3=>30|4=>31|n=>n⟩
theorem Tryz.lays196:Go.Proofs.Lays.n196 Tryz.prog Tryz.lays196_ren:={
 mixed:=by kernel_rfl
 f196:=Tryz.func183.trans (congrArg some (by kernel_rfl))
 f259:=Tryz.func200.trans (congrArg some (by kernel_rfl))
 t0:=Tryz.underlying0
 a0:=Tryz.isAgg0
 z0:=Tryz.sizeOf0
 v0:=Tryz.zeroValue0
 t3:=Tryz.underlying3
 a3:=Tryz.isAgg3
 z3:=Tryz.sizeOf3
 v3:=Tryz.zeroValue3
 t4:=Tryz.underlying4
 a4:=Tryz.isAgg4
 z4:=Tryz.sizeOf4
 v4:=Tryz.zeroValue4
 t5:=Tryz.underlying5
 a5:=Tryz.isAgg5
 z5:=Tryz.sizeOf5
 v5:=Tryz.zeroValue5
 t9:=Tryz.underlying9
 a9:=Tryz.isAgg9
 z9:=Tryz.sizeOf9
 v9:=Tryz.zeroValue9
 t12:=Tryz.underlying12
 a12:=Tryz.isAgg12
 z12:=Tryz.sizeOf12
 v12:=Tryz.zeroValue12
 t46:=Tryz.underlying190
 a46:=Tryz.isAgg190
 z46:=Tryz.sizeOf190
 v46:=Tryz.zeroValue190
 t53:=Tryz.underlying189
 a53:=Tryz.isAgg189
 z53:=Tryz.sizeOf189
 v53:=Tryz.zeroValue189
 t119:=Tryz.underlying244
 a119:=Tryz.isAgg244
 z119:=Tryz.sizeOf244
 t138:=Tryz.underlying246
 a138:=Tryz.isAgg246
 z138:=Tryz.sizeOf246
 v138:=Tryz.zeroValue246
 t139:=Tryz.underlying247
 a139:=Tryz.isAgg247
 z139:=Tryz.sizeOf247
 v139:=Tryz.zeroValue247
 g3:=by kernel_rfl
 g4:=by kernel_rfl }
end Go.Proofs
namespace Go.Proofs.YtijkaknggdaajaaGreatDoor
open Go.RowKit
section
variable {P:Program} {ops:Array Oper} {rest:List Oper} {o:Oper} {a:Act} {w:World} {Q:Exit→Act→World→Prop}
theorem grown_bytesW (w:World) (e:TypeId) (s:ByteArray):w.grownBy (Lib.bytesWorld w e s) none :=
 ⟨by simp[Lib.bytesWorld,World.freeze];rfl,by simp[Lib.bytesWorld,World.freeze],by simp[Lib.bytesWorld,World.freeze];rfl,by rw[Lib.bytesWorld_size];omega,fun k hk _=>Lib.bytesWorld_at_old w e s k hk⟩
end
end Go.Proofs.YtijkaknggdaajaaGreatDoor
