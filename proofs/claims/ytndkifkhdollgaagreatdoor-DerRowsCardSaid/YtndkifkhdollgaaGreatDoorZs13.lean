import Derived.Test.YtndkifkhdollgaaGreatDoorZs02
import Derived.Test.YtndkifkhdollgaaGreatDoorZs08
import Derived.Test.YtndkifkhdollgaaGreatDoorZs12
import Derived.Laws.StructEq
import Derived.WalkKit
set_option linter.unusedVariables false
set_option linter.unusedSimpArgs false
set_option maxRecDepth 100000
set_option maxHeartbeats 2000000
namespace Go.Proofs.YtndkifkhdollgaaGreatDoor
open Go.RowKit
section
variable {P:Program}
end
end Go.Proofs.YtndkifkhdollgaaGreatDoor
namespace Go.Proofs.YtndkifkhdollgaaGreatDoor
open Go Go.RowKit
section
variable {P:Program} {a:Act} {o:Oper} {w:World}
theorem move_val {x:Operand} {v:Value} (ho:o.op=.move x) (hx:a.eval x=v):(execOp a.eval o).run P w=.ok (.value v) w:=by
 simp[execOp,ho,hx,Sem.run_pure]
theorem pick_true {c x y:Operand} {v:Value} (ho:o.op=.pick c x y) (hc:a.eval c=.bool true) (hx:a.eval x=v):(execOp a.eval o).run P w=.ok (.value v) w:=by
 simp[execOp,ho,hc,hx,Sem.run_pure,asBool]
theorem call_enter {f:FuncId} {xs:Array Operand} {ts:Array TypeId} (ho:o.op=.call { callee:=.value (.func f),args:=xs,argTypes:=ts }) (hc:∀ args w,(callFunc f args).run P w=.ok (.enter f args) w) :
  (execOp a.eval o).run P w=.ok (.enter f (xs.map a.eval)) w:=by
 simp only[execOp,ho]
 rw[←hc]
 simp[resolve,invoke,Act.eval,Deferred.ofValue]
theorem build1_val {t e:TypeId} {x:Operand} {v:Value} (ho:o.op=.buildSlice t 1 #[(0,x)]) (hx:a.eval x=v) (hb:(Instr.buildSlice t 1 #[(0,v)]).run P w=.ok (.slice (some ⟨w.heap.size,0,none⟩) 1 1) (w.alloc (.cells #[v] e))) :
  (execOp a.eval o).run P w=.ok (.value (.slice (some ⟨w.heap.size,0,none⟩) 1 1)) (w.alloc (.cells #[v] e)):=by
 simp only[execOp,ho,List.map_toArray,List.map_cons,List.map_nil,hx]
 simp[Result.andThen,hb]
theorem assign_val {x:Operand} {v:Value} (ho:o.op=.assign x) (hx:a.eval x=v):(execOp a.eval o).run P w=.ok (.value v) w:=by
 simp[execOp,ho,hx,Sem.run_pure]
theorem wpList_last {ops:Array Oper} {Q:Exit→Act→World→Prop} {v:Value} (hg:o.guard=none) (hr:(execOp a.eval o).run P w=.ok (.value v) w) (h:Q .normal (a.put o.dst v) w):wpList P ops Q [o] a w:=by
 refine wpList_plain hg fun K hK=>?_
 unfold Oper.wp
 rw[hr]
 exact hK _ _ h
theorem fill_size (a0:Act) (D:List Nat) (us:Nat→Value):(fill a0 D us).tmps.size=a0.tmps.size:=by simp[fill]
theorem put_get {d:Nat} {v:Value} (h:d<a.tmps.size):(a.put (some d) v).tmps.getD d undef=v:=by
 show (a.tmps.setIfInBounds d v).getD d undef=v
 simp[h]
end
end Go.Proofs.YtndkifkhdollgaaGreatDoor
namespace Go.Proofs.YtndkifkhdollgaaGreatDoor
open Go.RowKit
def Stays (P:Value→World→Prop):Prop:=∀ x w w',World.grownBy w w' none→P x w→P x w'
def StaysAll:List (Value→World→Prop)→Prop
 |[]=>True
 |P :: r=>Stays P∧StaysAll r
def isV (v:Value):Value→World→Prop:=fun x _=>x=v
def isB (l:List Nat):Value→World→Prop:=fun x w=>Bytes w x l
def isAny:Value→World→Prop:=fun _ _=>True
theorem stays_V (v:Value):Stays (isV v):=fun _ _ _ _ h=>h
theorem stays_B (l:List Nat):Stays (isB l):=fun _ _ _ hg h=>Bytes.grown h hg
def flF (Ps:List (Value→World→Prop)) (j:Nat):Value→World→Prop:=Ps.getD j isAny
theorem flF_stays:∀ {Ps:List (Value→World→Prop)},StaysAll Ps→∀ (j:Nat) (x:Value) (w w':World),World.grownBy w w' none→flF Ps j x w→flF Ps j x w'
 |[],_,j,x,w,w',_,_=>by simp[flF,isAny]
 |P :: r,h,0,x,w,w',hg,hx=>h.1 x w w' hg hx
 |P :: r,h,j+1,x,w,w',hg,hx=>flF_stays h.2 j x w w' hg hx
section
variable {P:Program} {a:Act} {o:Oper} {w:World}
theorem conv_val {s d:TypeId} {x:Operand} {p v:Value} (ho:o.op=.convert s d x) (hx:a.eval x=p) (h:(convert s d p).run P w=.ok v w):(execOp a.eval o).run P w=.ok (.value v) w:=by
 simp[execOp,ho,hx,h,Result.andThen]
theorem pick_false {c x y:Operand} {v:Value} (ho:o.op=.pick c x y) (hc:a.eval c=.bool false) (hy:a.eval y=v):(execOp a.eval o).run P w=.ok (.value v) w:=by
 simp[execOp,ho,hc,hy,Sem.run_pure,asBool]
theorem eqlint_val {t r:TypeId} {x y:Operand} {k:IntKind} {s s':Int} (ho:o.op=.binOp .eql t x y r) (hx:a.eval x=.int k s) (hy:a.eval y=.int k s'):(execOp a.eval o).run P w=.ok (.value (.bool (s==s'))) w:=by
 simp only[execOp,ho,hx,hy]
 simp[go_sem,eqGuard,Sem.run_pure,binOp]
theorem not_val {t:TypeId} {x:Operand} {b:Bool} (ho:o.op=.unOp .not t x) (hx:a.eval x=.bool b):(execOp a.eval o).run P w=.ok (.value (.bool (!b))) w:=by
 simp only[execOp,ho,hx]
 simp[go_sem]
theorem quoint_val {t r:TypeId} {x y:Operand} {n m:Int} (ho:o.op=.binOp .quo t x y r) (hx:a.eval x=.int .i64 n) (hy:a.eval y=.int .i64 m) (hm:m≠0):(execOp a.eval o).run P w=.ok (.value (.int .i64 (IntKind.i64.wrap (n.tdiv m)))) w:=by
 simp only[execOp,ho,hx,hy]
 simp[go_sem,eqGuard,Sem.run_pure,binOp,hm]
theorem remint_val {t r:TypeId} {x y:Operand} {n m:Int} (ho:o.op=.binOp .rem t x y r) (hx:a.eval x=.int .i64 n) (hy:a.eval y=.int .i64 m) (hm:m≠0):(execOp a.eval o).run P w=.ok (.value (.int .i64 (n.tmod m))) w:=by
 simp only[execOp,ho,hx,hy]
 simp[go_sem,eqGuard,Sem.run_pure,binOp,hm]
theorem addint_val {t r:TypeId} {x y:Operand} {k:IntKind} {n m:Int} (ho:o.op=.binOp .add t x y r) (hx:a.eval x=.int k n) (hy:a.eval y=.int k m):(execOp a.eval o).run P w=.ok (.value (.int k (k.wrap (n+m)))) w:=by
 simp only[execOp,ho,hx,hy]
 simp[go_sem,eqGuard,Sem.run_pure,binOp]
theorem addstr_val {t r:TypeId} {x y:Operand} {n m:ByteArray} (ho:o.op=.binOp .add t x y r) (hx:a.eval x=.string n) (hy:a.eval y=.string m) (hl:n.size+m.size≤1000):(execOp a.eval o).run P w=.ok (.value (.string (n++m))) w:=by
 simp only[execOp,ho,hx,hy]
 simp[go_sem,eqGuard,Sem.run_pure,binOp,Op.stringOp]
 omega
theorem len_val {x:Operand} {t e:TypeId} {ad:Option Addr} {n c:Nat} (hu:P.underlying t=some (.slice e)) (ho:o.op=.call { callee:=.builtin .len,args:=#[x],argTypes:=#[t] }) (hx:a.eval x=.slice ad n c):(execOp a.eval o).run P w=.ok (.value (.int .i64 n)) w:=by
 simp only[execOp,ho,resolve,List.map_toArray,List.map_cons,List.map_nil,hx]
 simp[go_sem,invoke,Builtin.len_,run_underlying hu,Result.andThen,Sem.run_bind,Sem.run_pure]
end
section
variable {a:Act} {us:Nat→Value} {D:List Nat} {d:Nat}
theorem fill_nil:fill a [] us=a:=by
 obtain ⟨⟨l⟩,e⟩:=a
 unfold fill
 congr 1
 congr 1
 refine List.ext_getElem (by simp) fun i h1 h2=>?_
 simp
theorem fill_cons:fill a (d :: D) us=(fill a D us).put (some d) (us d):=by
 obtain ⟨⟨l⟩,e⟩:=a
 show (⟨_,e⟩:Act)=⟨((l.mapIdx fun k x=>if D.contains k then us k else x).toArray).setIfInBounds d (us d),e⟩
 congr 1
 rw[List.setIfInBounds_toArray]
 congr 1
 refine List.ext_getElem (by simp only[List.length_set,List.length_mapIdx]) fun i h1 h2=>?_
 simp only[List.getElem_set,List.getElem_mapIdx,List.contains_cons]
 by_cases hi:d=i
 ·subst hi;simp
 ·rw[if_neg hi]
  have:(i==d)=false:=by simp;exact fun h=>hi h.symm
  rw[this,Bool.false_or]
end
def regionsIn:Code→List Code
 |.seq a b=>regionsIn a++regionsIn b
 |.cond _ a b=>regionsIn a++regionsIn b
 |.block _ c=>regionsIn c
 |.loop c=>regionsIn c
 |.scope c=>regionsIn c
 |.region i o d=>[.region i o d]
 |_=>[]
def regionIn (c:Option Code) (k:Nat):Code:=(((c.map regionsIn).getD []).find? fun r=>match r with | .region i _ _=>i==k|_=>false).getD .skip
section
variable {P:Program} {ops:Array Oper} {md:Region.Mode} {C:World→Prop} {S:World→World→Prop} {F:Nat→Value→World→Prop} {a0:Act} {D:List Nat} {j:Nat} {o:Oper}
theorem wants_not {us:Nat→Value} {k d:Nat} {b:Bool} (h:o.guard=some (k,b)) (hk:(ops[k]?).bind (·.dst)=some d) (hd:D.contains d=true) (hl:d<a0.tmps.size) (hu:us d=.bool (!b)):¬ Wants ops o a0 D us:=by
 unfold Wants Region.wanted
 rw[h]
 simp[yielded,hk,fill_at hd hl,hu]
theorem flow_skip (hw:∀ us w,C w→(∀ k,k∈depsOf md o→F k (us (dstOf ops k)) w)→¬ Wants ops o a0 D us)
  (hS:∀ w,S w w) (hF:∀ v w,F j v w):FlowAt P md ops C S F a0 D j o:=by
 intro us w hC hd' Q hQ
 unfold wpList
 rw[if_neg (show ¬ Region.wanted o (yielded ops (fill a0 D us).tmps)=true from hw us w hC hd')]
 exact hQ undef w (hS w) (hF _ _)
end
section
variable {P:Program} {a:Act} {o:Oper} {w:World}
theorem mulint_val {t r:TypeId} {x y:Operand} {k:IntKind} {n m:Int} (ho:o.op=.binOp .mul t x y r) (hx:a.eval x=.int k n) (hy:a.eval y=.int k m):(execOp a.eval o).run P w=.ok (.value (.int k (k.wrap (n*m)))) w:=by
 simp only[execOp,ho,hx,hy]
 simp[go_sem,eqGuard,Sem.run_pure,binOp]
theorem loadc_val {t:TypeId} {x:Operand} {p v:Value} (ho:o.op=.load t x) (hx:a.eval x=p) (h:(Instr.loadAt t p).run P w=.ok v w):(execOp a.eval o).run P w=.ok (.value v) w:=by
 simp[execOp,ho,hx,h,Result.andThen]
theorem idx_val {t:TypeId} {x y:Operand} {u v p:Value} (ho:o.op=.indexAddr t x y) (hx:a.eval x=u) (hy:a.eval y=v) (h:(Instr.indexAt t u v).run P w=.ok p w):(execOp a.eval o).run P w=.ok (.value p) w:=by
 simp[execOp,ho,hx,hy,h,Result.andThen]
end
theorem idxI (w:World) (sb so n c:Nat) (i:Nat) (h:i<n):(Instr.indexAt 46 (.slice (some ⟨sb,so,none⟩) n c) (.int .i64 (i:Int))).run Tryz.prog w=.ok (.pointer (some ⟨sb,so+i,none⟩)) w:=by
 have h1:(0:Int)≤(i:Int)∧(i:Int)<(n:Int):=⟨by omega,by omega⟩
 simp[go_sem,h1]
theorem loadI {w:World} {ad:Addr} {z:Int} (h:w.cell? ad=some (.int .i64 z)):(Instr.loadAt 3 (.pointer (some ad))).run Tryz.prog w=.ok (.int .i64 z) w:=by simp[go_sem,h]
noncomputable def rs_regionC:Code:=regionIn Tryz.f170.body 3
theorem rs_region (a:Act) (u:Nat) (T1 T2:ByteArray) (W w:World) (Q:Exit→Act→World→Prop) (hsz:a.tmps.size=20)
  (h0:a.eval (.tmp 0)=.int .i64 (u:Int))
  (hS:∀ w,W.grownBy w none→Calls Tryz.prog 170 #[.int .i64 ((u/10:Nat):Int)] w fun e w'=>∃ v,e=.returned v∧w.grownBy w' none∧isV (.string T1) v w')
  (hCv:∀ w,(convert 3 5 (.int .i64 ((48+u%10:Nat):Int))).run Tryz.prog w=.ok (.int .u8 ((48+u%10:Nat):Int)) w)
  (hBd:∀ w,(Instr.buildSlice 22 1 #[(0,.int .u8 ((48+u%10:Nat):Int))]).run Tryz.prog w=.ok (.slice (some ⟨w.heap.size,0,none⟩) 1 1) (w.alloc (.cells #[.int .u8 ((48+u%10:Nat):Int)] 5)))
  (hBl:48+u%10<256)
  (hSu:∀ w x,Bytes w x [48+u%10]→(convert 22 9 x).run Tryz.prog w=.ok (.string T2) w)
  (hu1:IntKind.i64.wrap ((u:Int).tdiv 10)=((u/10:Nat):Int))
  (hu2:(u:Int).tmod 10=((u%10:Nat):Int))
  (hu3:IntKind.i64.wrap (48+((u%10:Nat):Int))=((48+u%10:Nat):Int))
  (hlen:T1.size+T2.size≤1000)
  (hw:W.grownBy { w with drawn:=w.drawn+1 } none)
  (hQ:∀ us w',W.grownBy w' none→Q .normal ((fill a [10,11,12,13,14,15,16,17,18,19] us).put (some 2) (.string (T1++T2))) w'):rs_regionC.wp Tryz.prog Q a w:=by
 have hst:StaysAll [isV (.int .i64 (u:Int)),isV (.int .i64 ((u/10:Nat):Int)),isV (.string T1),isV (.int .i64 (u:Int)),isV (.int .i64 ((u%10:Nat):Int)),isV (.int .i64 ((48+u%10:Nat):Int)),isV (.int .u8 ((48+u%10:Nat):Int)),isB [48+u%10],isV (.string T2),isV (.string (T1++T2))]:=⟨stays_V _,stays_V _,stays_V _,stays_V _,stays_V _,stays_V _,stays_V _,stays_B _,stays_V _,stays_V _,trivial⟩
 conv=>arg 2;whnf
 refine wp_region_flow 10 [10,11,12,13,14,15,16,17,18,19] (fun w'=>W.grownBy w' none) (fun w w'=>w.grownBy w' none) (flF [isV (.int .i64 (u:Int)),isV (.int .i64 ((u/10:Nat):Int)),isV (.string T1),isV (.int .i64 (u:Int)),isV (.int .i64 ((u%10:Nat):Int)),isV (.int .i64 ((48+u%10:Nat):Int)),isV (.int .u8 ((48+u%10:Nat):Int)),isB [48+u%10],isV (.string T2),isV (.string (T1++T2))]) (by kernel_rfl) (by kernel_rfl) (fun _ _ h k=>grown_trans k h) (fun j x w w' hg h=>flF_stays hst j x w w' hg h) hw ?_ ?_
 ·refine ⟨?_,?_,?_,?_,?_,?_,?_,?_,?_,?_,trivial⟩
  ·exact flow_step (fun us w hC hd=>wants_free rfl) (fun us w hC hd=>⟨_,w,move_val rfl ((fill_old (by rfl)).trans h0),grown_refl _ _,rfl⟩)
  ·exact flow_step (fun us w hC hd=>wants_free rfl) (fun us w hC hd=>⟨_,w,(quoint_val rfl ((fill_tmp (by rfl) (by rw[hsz];decide)).trans (hd 0 (by decide))) rfl (by decide)).trans (by rw[hu1]),grown_refl _ _,rfl⟩)
  ·refine flow_call 170 (fun us=>#[us 11]) (fun us w hC hd=>wants_free rfl) (fun us w=>by rw[call_enter rfl (fun _ _=>by simp[go_sem]),List.map_toArray,List.map_cons,List.map_nil,fill_tmp (by rfl) (by rw[hsz];decide)]) (fun us w hC' hd=>?_)
   rw[show us 11=.int .i64 ((u/10:Nat):Int) from hd 1 (by decide)]
   exact hS w hC'
  ·exact flow_step (fun us w hC hd=>wants_free rfl) (fun us w hC hd=>⟨_,w,move_val rfl ((fill_old (by rfl)).trans h0),grown_refl _ _,rfl⟩)
  ·exact flow_step (fun us w hC hd=>wants_free rfl) (fun us w hC hd=>⟨_,w,(remint_val rfl ((fill_tmp (by rfl) (by rw[hsz];decide)).trans (hd 3 (by decide))) rfl (by decide)).trans (by rw[hu2]),grown_refl _ _,rfl⟩)
  ·exact flow_step (fun us w hC hd=>wants_free rfl) (fun us w hC hd=>⟨_,w,(addint_val rfl rfl ((fill_tmp (by rfl) (by rw[hsz];decide)).trans (hd 4 (by decide)))).trans (by rw[hu3]),grown_refl _ _,rfl⟩)
  ·exact flow_step (fun us w hC hd=>wants_free rfl) (fun us w hC hd=>⟨_,w,conv_val rfl ((fill_tmp (by rfl) (by rw[hsz];decide)).trans (hd 5 (by decide))) (hCv w),grown_refl _ _,rfl⟩)
  ·exact flow_step (fun us w hC hd=>wants_free rfl) (fun us w hC hd=>⟨_,_,build1_val rfl ((fill_tmp (by rfl) (by rw[hsz];decide)).trans (hd 6 (by decide))) (hBd w),World.grownBy_alloc _ _ _,Bytes.lit (l:=[48+u%10]) (alloc_at w _) (by simpa using hBl)⟩)
  ·exact flow_step (fun us w hC hd=>wants_free rfl) (fun us w hC hd=>⟨_,w,conv_val rfl (fill_tmp (by rfl) (by rw[hsz];decide)) (hSu w _ (hd 7 (by decide))),grown_refl _ _,rfl⟩)
  ·exact flow_step (fun us w hC hd=>wants_free rfl) (fun us w hC hd=>⟨_,w,addstr_val rfl ((fill_tmp (by rfl) (by rw[hsz];decide)).trans (hd 2 (by decide))) ((fill_tmp (by rfl) (by rw[hsz];decide)).trans (hd 8 (by decide))) hlen,grown_refl _ _,rfl⟩)
 ·intro us w' hC' hd
  exact wpList_last rfl (assign_val rfl ((fill_tmp (by rfl) (by rw[hsz];decide)).trans (hd 9 (by decide)))) (hQ us w' hC')
def isIf (g b:Bool) (v:Value):Value→World→Prop:=fun x _=>g=b→x=v
theorem stays_If (g b:Bool) (v:Value):Stays (isIf g b v):=fun _ _ _ _ h=>h
section
variable {P:Program} {a:Act} {o:Oper} {w:World}
theorem fieldA_val {t:TypeId} {x:Operand} {k:Nat} {p v:Value} (ho:o.op=.fieldAddr t x k) (hx:a.eval x=p) (h:(Instr.fieldAt t p k).run P w=.ok v w):(execOp a.eval o).run P w=.ok (.value v) w:=by
 simp[execOp,ho,hx,h,Result.andThen]
theorem cmpgeq_val {t r:TypeId} {x y:Operand} {k:IntKind} {n m:Int} (ho:o.op=.binOp .geq t x y r) (hx:a.eval x=.int k n) (hy:a.eval y=.int k m):(execOp a.eval o).run P w=.ok (.value (.bool (decide (m≤n)))) w:=by
 simp only[execOp,ho,hx,hy]
 simp[go_sem,eqGuard,Sem.run_pure,binOp]
theorem cmpleq_val {t r:TypeId} {x y:Operand} {k:IntKind} {n m:Int} (ho:o.op=.binOp .leq t x y r) (hx:a.eval x=.int k n) (hy:a.eval y=.int k m):(execOp a.eval o).run P w=.ok (.value (.bool (decide (n≤m)))) w:=by
 simp only[execOp,ho,hx,hy]
 simp[go_sem,eqGuard,Sem.run_pure,binOp]
theorem cmpgtr_val {t r:TypeId} {x y:Operand} {k:IntKind} {n m:Int} (ho:o.op=.binOp .gtr t x y r) (hx:a.eval x=.int k n) (hy:a.eval y=.int k m):(execOp a.eval o).run P w=.ok (.value (.bool (decide (m<n)))) w:=by
 simp only[execOp,ho,hx,hy]
 simp[go_sem,eqGuard,Sem.run_pure,binOp]
end
theorem fieldD (w:World) (B:Nat):∀ (k:Nat) (hk:k<6),(Instr.fieldAt 182 (.pointer (some ⟨B,0,none⟩)) k).run Tryz.prog w=.ok (.pointer (some ⟨B,k,none⟩)) w
 |0,_=>by kernel_rfl
 |1,_=>by kernel_rfl
 |2,_=>by kernel_rfl
 |3,_=>by kernel_rfl
 |4,_=>by kernel_rfl
 |5,_=>by kernel_rfl
 |n+6,h=>absurd h (by omega)
noncomputable def rt_regionC:Code:=regionIn Tryz.f171.body 1
theorem rt_region (a:Act) (B:Nat) (Y M D h mi s:Int) (dd:Nat) (c1 c2 c3 c4 c5 c6 c7 c8 c9 c10 c11 c12:Bool) (W w:World) (Q:Exit→Act→World→Prop) (hsz:a.tmps.size=66)
  (h1:a.eval (.tmp 1)=.pointer (some ⟨B,0,none⟩))
  (hcl:∀ w,W.grownBy w none→∀ k z,[Y,M,D,h,mi,s][k]?=some z→w.cell? ⟨B,k,none⟩=some (.int .i64 z))
  (hDy:∀ w,W.grownBy w none→Calls Tryz.prog 177 #[.int .i64 Y,.int .i64 M] w fun e w'=>e=.returned (.int .i64 ((dd:Nat):Int))∧w.grownBy w' none)
  (hc1:decide ((1970:Int)≤Y)=c1)
  (hc2:decide ((Y:Int)≤9999)=c2)
  (hc3:decide ((1:Int)≤M)=c3)
  (hc4:decide ((M:Int)≤12)=c4)
  (hc5:decide ((1:Int)≤D)=c5)
  (hc6:decide ((D:Int)≤((dd:Nat):Int))=c6)
  (hc7:decide ((0:Int)≤h)=c7)
  (hc8:decide ((h:Int)≤23)=c8)
  (hc9:decide ((0:Int)≤mi)=c9)
  (hc10:decide ((mi:Int)≤59)=c10)
  (hc11:decide ((0:Int)≤s)=c11)
  (hc12:decide ((s:Int)≤59)=c12)
  (hw:W.grownBy { w with drawn:=w.drawn+1 } none)
  (hQ:∀ us w',W.grownBy w' none→Q .normal ((fill a [3,4,5,6,7,8,9,10,11,12,13,14,15,16,17,18,19,20,21,22,23,24,25,26,27,28,29,30,31,32,33,34,35,36,37,38,39,40,41,42,43,44,45,46,47,48,49,50,51,52,53,54,55,56,57,58,59,60,61,62,63,64,65] us).put (some 2) (.bool (((((((((((c1&&c2)&&c3)&&c4)&&c5)&&c6)&&c7)&&c8)&&c9)&&c10)&&c11)&&c12))) w'):rt_regionC.wp Tryz.prog Q a w:=by
 have hst:StaysAll [isV (.pointer (some ⟨B,0,none⟩)),isV (.int .i64 Y),isV (.bool c1),isV (.bool c1),isIf (c1) true (.pointer (some ⟨B,0,none⟩)),isIf (c1) true (.int .i64 Y),isIf (c1) true (.bool c2),isV (.bool (c1&&c2)),isV (.bool (c1&&c2)),isIf ((c1&&c2)) true (.pointer (some ⟨B,1,none⟩)),isIf ((c1&&c2)) true (.int .i64 M),isIf ((c1&&c2)) true (.bool c3),isV (.bool ((c1&&c2)&&c3)),isV (.bool ((c1&&c2)&&c3)),isIf (((c1&&c2)&&c3)) true (.pointer (some ⟨B,1,none⟩)),isIf (((c1&&c2)&&c3)) true (.int .i64 M),isIf (((c1&&c2)&&c3)) true (.bool c4),isV (.bool (((c1&&c2)&&c3)&&c4)),isV (.bool (((c1&&c2)&&c3)&&c4)),isIf ((((c1&&c2)&&c3)&&c4)) true (.pointer (some ⟨B,2,none⟩)),isIf ((((c1&&c2)&&c3)&&c4)) true (.int .i64 D),isIf ((((c1&&c2)&&c3)&&c4)) true (.bool c5),isV (.bool ((((c1&&c2)&&c3)&&c4)&&c5)),isV (.bool ((((c1&&c2)&&c3)&&c4)&&c5)),isIf (((((c1&&c2)&&c3)&&c4)&&c5)) true (.pointer (some ⟨B,2,none⟩)),isIf (((((c1&&c2)&&c3)&&c4)&&c5)) true (.int .i64 D),isIf (((((c1&&c2)&&c3)&&c4)&&c5)) true (.pointer (some ⟨B,0,none⟩)),isIf (((((c1&&c2)&&c3)&&c4)&&c5)) true (.int .i64 Y),isIf (((((c1&&c2)&&c3)&&c4)&&c5)) true (.pointer (some ⟨B,1,none⟩)),isIf (((((c1&&c2)&&c3)&&c4)&&c5)) true (.int .i64 M),isIf (((((c1&&c2)&&c3)&&c4)&&c5)) true (.int .i64 ((dd:Nat):Int)),isIf (((((c1&&c2)&&c3)&&c4)&&c5)) true (.bool c6),isV (.bool (((((c1&&c2)&&c3)&&c4)&&c5)&&c6)),isV (.bool (((((c1&&c2)&&c3)&&c4)&&c5)&&c6)),isIf ((((((c1&&c2)&&c3)&&c4)&&c5)&&c6)) true (.pointer (some ⟨B,3,none⟩)),isIf ((((((c1&&c2)&&c3)&&c4)&&c5)&&c6)) true (.int .i64 h),isIf ((((((c1&&c2)&&c3)&&c4)&&c5)&&c6)) true (.bool c7),isV (.bool ((((((c1&&c2)&&c3)&&c4)&&c5)&&c6)&&c7)),isV (.bool ((((((c1&&c2)&&c3)&&c4)&&c5)&&c6)&&c7)),isIf (((((((c1&&c2)&&c3)&&c4)&&c5)&&c6)&&c7)) true (.pointer (some ⟨B,3,none⟩)),isIf (((((((c1&&c2)&&c3)&&c4)&&c5)&&c6)&&c7)) true (.int .i64 h),isIf (((((((c1&&c2)&&c3)&&c4)&&c5)&&c6)&&c7)) true (.bool c8),isV (.bool (((((((c1&&c2)&&c3)&&c4)&&c5)&&c6)&&c7)&&c8)),isV (.bool (((((((c1&&c2)&&c3)&&c4)&&c5)&&c6)&&c7)&&c8)),isIf ((((((((c1&&c2)&&c3)&&c4)&&c5)&&c6)&&c7)&&c8)) true (.pointer (some ⟨B,4,none⟩)),isIf ((((((((c1&&c2)&&c3)&&c4)&&c5)&&c6)&&c7)&&c8)) true (.int .i64 mi),isIf ((((((((c1&&c2)&&c3)&&c4)&&c5)&&c6)&&c7)&&c8)) true (.bool c9),isV (.bool ((((((((c1&&c2)&&c3)&&c4)&&c5)&&c6)&&c7)&&c8)&&c9)),isV (.bool ((((((((c1&&c2)&&c3)&&c4)&&c5)&&c6)&&c7)&&c8)&&c9)),isIf (((((((((c1&&c2)&&c3)&&c4)&&c5)&&c6)&&c7)&&c8)&&c9)) true (.pointer (some ⟨B,4,none⟩)),isIf (((((((((c1&&c2)&&c3)&&c4)&&c5)&&c6)&&c7)&&c8)&&c9)) true (.int .i64 mi),isIf (((((((((c1&&c2)&&c3)&&c4)&&c5)&&c6)&&c7)&&c8)&&c9)) true (.bool c10),isV (.bool (((((((((c1&&c2)&&c3)&&c4)&&c5)&&c6)&&c7)&&c8)&&c9)&&c10)),isV (.bool (((((((((c1&&c2)&&c3)&&c4)&&c5)&&c6)&&c7)&&c8)&&c9)&&c10)),isIf ((((((((((c1&&c2)&&c3)&&c4)&&c5)&&c6)&&c7)&&c8)&&c9)&&c10)) true (.pointer (some ⟨B,5,none⟩)),isIf ((((((((((c1&&c2)&&c3)&&c4)&&c5)&&c6)&&c7)&&c8)&&c9)&&c10)) true (.int .i64 s),isIf ((((((((((c1&&c2)&&c3)&&c4)&&c5)&&c6)&&c7)&&c8)&&c9)&&c10)) true (.bool c11),isV (.bool ((((((((((c1&&c2)&&c3)&&c4)&&c5)&&c6)&&c7)&&c8)&&c9)&&c10)&&c11)),isV (.bool ((((((((((c1&&c2)&&c3)&&c4)&&c5)&&c6)&&c7)&&c8)&&c9)&&c10)&&c11)),isIf (((((((((((c1&&c2)&&c3)&&c4)&&c5)&&c6)&&c7)&&c8)&&c9)&&c10)&&c11)) true (.pointer (some ⟨B,5,none⟩)),isIf (((((((((((c1&&c2)&&c3)&&c4)&&c5)&&c6)&&c7)&&c8)&&c9)&&c10)&&c11)) true (.int .i64 s),isIf (((((((((((c1&&c2)&&c3)&&c4)&&c5)&&c6)&&c7)&&c8)&&c9)&&c10)&&c11)) true (.bool c12),isV (.bool (((((((((((c1&&c2)&&c3)&&c4)&&c5)&&c6)&&c7)&&c8)&&c9)&&c10)&&c11)&&c12))]:=⟨stays_V _,stays_V _,stays_V _,stays_V _,stays_If _ _ _,stays_If _ _ _,stays_If _ _ _,stays_V _,stays_V _,stays_If _ _ _,stays_If _ _ _,stays_If _ _ _,stays_V _,stays_V _,stays_If _ _ _,stays_If _ _ _,stays_If _ _ _,stays_V _,stays_V _,stays_If _ _ _,stays_If _ _ _,stays_If _ _ _,stays_V _,stays_V _,stays_If _ _ _,stays_If _ _ _,stays_If _ _ _,stays_If _ _ _,stays_If _ _ _,stays_If _ _ _,stays_If _ _ _,stays_If _ _ _,stays_V _,stays_V _,stays_If _ _ _,stays_If _ _ _,stays_If _ _ _,stays_V _,stays_V _,stays_If _ _ _,stays_If _ _ _,stays_If _ _ _,stays_V _,stays_V _,stays_If _ _ _,stays_If _ _ _,stays_If _ _ _,stays_V _,stays_V _,stays_If _ _ _,stays_If _ _ _,stays_If _ _ _,stays_V _,stays_V _,stays_If _ _ _,stays_If _ _ _,stays_If _ _ _,stays_V _,stays_V _,stays_If _ _ _,stays_If _ _ _,stays_If _ _ _,stays_V _,trivial⟩
 conv=>arg 2;whnf
 refine wp_region_flow 63 [3,4,5,6,7,8,9,10,11,12,13,14,15,16,17,18,19,20,21,22,23,24,25,26,27,28,29,30,31,32,33,34,35,36,37,38,39,40,41,42,43,44,45,46,47,48,49,50,51,52,53,54,55,56,57,58,59,60,61,62,63,64,65] (fun w'=>W.grownBy w' none) (fun w w'=>w.grownBy w' none) (flF [isV (.pointer (some ⟨B,0,none⟩)),isV (.int .i64 Y),isV (.bool c1),isV (.bool c1),isIf (c1) true (.pointer (some ⟨B,0,none⟩)),isIf (c1) true (.int .i64 Y),isIf (c1) true (.bool c2),isV (.bool (c1&&c2)),isV (.bool (c1&&c2)),isIf ((c1&&c2)) true (.pointer (some ⟨B,1,none⟩)),isIf ((c1&&c2)) true (.int .i64 M),isIf ((c1&&c2)) true (.bool c3),isV (.bool ((c1&&c2)&&c3)),isV (.bool ((c1&&c2)&&c3)),isIf (((c1&&c2)&&c3)) true (.pointer (some ⟨B,1,none⟩)),isIf (((c1&&c2)&&c3)) true (.int .i64 M),isIf (((c1&&c2)&&c3)) true (.bool c4),isV (.bool (((c1&&c2)&&c3)&&c4)),isV (.bool (((c1&&c2)&&c3)&&c4)),isIf ((((c1&&c2)&&c3)&&c4)) true (.pointer (some ⟨B,2,none⟩)),isIf ((((c1&&c2)&&c3)&&c4)) true (.int .i64 D),isIf ((((c1&&c2)&&c3)&&c4)) true (.bool c5),isV (.bool ((((c1&&c2)&&c3)&&c4)&&c5)),isV (.bool ((((c1&&c2)&&c3)&&c4)&&c5)),isIf (((((c1&&c2)&&c3)&&c4)&&c5)) true (.pointer (some ⟨B,2,none⟩)),isIf (((((c1&&c2)&&c3)&&c4)&&c5)) true (.int .i64 D),isIf (((((c1&&c2)&&c3)&&c4)&&c5)) true (.pointer (some ⟨B,0,none⟩)),isIf (((((c1&&c2)&&c3)&&c4)&&c5)) true (.int .i64 Y),isIf (((((c1&&c2)&&c3)&&c4)&&c5)) true (.pointer (some ⟨B,1,none⟩)),isIf (((((c1&&c2)&&c3)&&c4)&&c5)) true (.int .i64 M),isIf (((((c1&&c2)&&c3)&&c4)&&c5)) true (.int .i64 ((dd:Nat):Int)),isIf (((((c1&&c2)&&c3)&&c4)&&c5)) true (.bool c6),isV (.bool (((((c1&&c2)&&c3)&&c4)&&c5)&&c6)),isV (.bool (((((c1&&c2)&&c3)&&c4)&&c5)&&c6)),isIf ((((((c1&&c2)&&c3)&&c4)&&c5)&&c6)) true (.pointer (some ⟨B,3,none⟩)),isIf ((((((c1&&c2)&&c3)&&c4)&&c5)&&c6)) true (.int .i64 h),isIf ((((((c1&&c2)&&c3)&&c4)&&c5)&&c6)) true (.bool c7),isV (.bool ((((((c1&&c2)&&c3)&&c4)&&c5)&&c6)&&c7)),isV (.bool ((((((c1&&c2)&&c3)&&c4)&&c5)&&c6)&&c7)),isIf (((((((c1&&c2)&&c3)&&c4)&&c5)&&c6)&&c7)) true (.pointer (some ⟨B,3,none⟩)),isIf (((((((c1&&c2)&&c3)&&c4)&&c5)&&c6)&&c7)) true (.int .i64 h),isIf (((((((c1&&c2)&&c3)&&c4)&&c5)&&c6)&&c7)) true (.bool c8),isV (.bool (((((((c1&&c2)&&c3)&&c4)&&c5)&&c6)&&c7)&&c8)),isV (.bool (((((((c1&&c2)&&c3)&&c4)&&c5)&&c6)&&c7)&&c8)),isIf ((((((((c1&&c2)&&c3)&&c4)&&c5)&&c6)&&c7)&&c8)) true (.pointer (some ⟨B,4,none⟩)),isIf ((((((((c1&&c2)&&c3)&&c4)&&c5)&&c6)&&c7)&&c8)) true (.int .i64 mi),isIf ((((((((c1&&c2)&&c3)&&c4)&&c5)&&c6)&&c7)&&c8)) true (.bool c9),isV (.bool ((((((((c1&&c2)&&c3)&&c4)&&c5)&&c6)&&c7)&&c8)&&c9)),isV (.bool ((((((((c1&&c2)&&c3)&&c4)&&c5)&&c6)&&c7)&&c8)&&c9)),isIf (((((((((c1&&c2)&&c3)&&c4)&&c5)&&c6)&&c7)&&c8)&&c9)) true (.pointer (some ⟨B,4,none⟩)),isIf (((((((((c1&&c2)&&c3)&&c4)&&c5)&&c6)&&c7)&&c8)&&c9)) true (.int .i64 mi),isIf (((((((((c1&&c2)&&c3)&&c4)&&c5)&&c6)&&c7)&&c8)&&c9)) true (.bool c10),isV (.bool (((((((((c1&&c2)&&c3)&&c4)&&c5)&&c6)&&c7)&&c8)&&c9)&&c10)),isV (.bool (((((((((c1&&c2)&&c3)&&c4)&&c5)&&c6)&&c7)&&c8)&&c9)&&c10)),isIf ((((((((((c1&&c2)&&c3)&&c4)&&c5)&&c6)&&c7)&&c8)&&c9)&&c10)) true (.pointer (some ⟨B,5,none⟩)),isIf ((((((((((c1&&c2)&&c3)&&c4)&&c5)&&c6)&&c7)&&c8)&&c9)&&c10)) true (.int .i64 s),isIf ((((((((((c1&&c2)&&c3)&&c4)&&c5)&&c6)&&c7)&&c8)&&c9)&&c10)) true (.bool c11),isV (.bool ((((((((((c1&&c2)&&c3)&&c4)&&c5)&&c6)&&c7)&&c8)&&c9)&&c10)&&c11)),isV (.bool ((((((((((c1&&c2)&&c3)&&c4)&&c5)&&c6)&&c7)&&c8)&&c9)&&c10)&&c11)),isIf (((((((((((c1&&c2)&&c3)&&c4)&&c5)&&c6)&&c7)&&c8)&&c9)&&c10)&&c11)) true (.pointer (some ⟨B,5,none⟩)),isIf (((((((((((c1&&c2)&&c3)&&c4)&&c5)&&c6)&&c7)&&c8)&&c9)&&c10)&&c11)) true (.int .i64 s),isIf (((((((((((c1&&c2)&&c3)&&c4)&&c5)&&c6)&&c7)&&c8)&&c9)&&c10)&&c11)) true (.bool c12),isV (.bool (((((((((((c1&&c2)&&c3)&&c4)&&c5)&&c6)&&c7)&&c8)&&c9)&&c10)&&c11)&&c12))]) (by kernel_rfl) (by kernel_rfl) (fun _ _ h k=>grown_trans k h) (fun j x w w' hg h=>flF_stays hst j x w w' hg h) hw ?_ ?_
 ·refine ⟨?_,?_,?_,?_,?_,?_,?_,?_,?_,?_,?_,?_,?_,?_,?_,?_,?_,?_,?_,?_,?_,?_,?_,?_,?_,?_,?_,?_,?_,?_,?_,?_,?_,?_,?_,?_,?_,?_,?_,?_,?_,?_,?_,?_,?_,?_,?_,?_,?_,?_,?_,?_,?_,?_,?_,?_,?_,?_,?_,?_,?_,?_,?_,trivial⟩
  ·exact flow_step (fun us w hC hd=>wants_free rfl) (fun us w hC hd=>⟨_,w,fieldA_val rfl ((fill_old (by rfl)).trans h1) (fieldD w B 0 (by decide)),grown_refl _ _,rfl⟩)
  ·exact flow_step (fun us w hC hd=>wants_free rfl) (fun us w hC hd=>⟨_,w,loadc_val rfl ((fill_tmp (by rfl) (by rw[hsz];decide)).trans (hd 0 (by decide))) (loadI (hcl w hC 0 Y rfl)),grown_refl _ _,rfl⟩)
  ·exact flow_step (fun us w hC hd=>wants_free rfl) (fun us w hC hd=>⟨_,w,(cmpgeq_val rfl ((fill_tmp (by rfl) (by rw[hsz];decide)).trans (hd 1 (by decide))) rfl).trans (by rw[hc1]),grown_refl _ _,rfl⟩)
  ·exact flow_step (fun us w hC hd=>wants_free rfl) (fun us w hC hd=>⟨_,w,move_val rfl ((fill_tmp (by rfl) (by rw[hsz];decide)).trans (hd 2 (by decide))),grown_refl _ _,rfl⟩)
  ·rcases Bool.eq_false_or_eq_true (c1) with hg|hg
   ·exact flow_step (fun us w hC hd=>wants_on (d:=6) (b:=true) rfl rfl (by rfl) (by rw[hsz];decide) ((hd 3 (by decide)).trans (by rw[hg]))) (fun us w hC hd=>⟨_,w,fieldA_val rfl ((fill_old (by rfl)).trans h1) (fieldD w B 0 (by decide)),grown_refl _ _,fun _=>rfl⟩)
   ·exact flow_skip (fun us w hC hd=>wants_not (d:=6) (b:=true) rfl rfl (by rfl) (by rw[hsz];decide) ((hd 3 (by decide)).trans (by rw[hg];rfl))) (fun _=>grown_refl _ _) (fun _ _ h=>by rw[hg] at h;cases h)
  ·rcases Bool.eq_false_or_eq_true (c1) with hg|hg
   ·exact flow_step (fun us w hC hd=>wants_on (d:=6) (b:=true) rfl rfl (by rfl) (by rw[hsz];decide) ((hd 3 (by decide)).trans (by rw[hg]))) (fun us w hC hd=>⟨_,w,loadc_val rfl ((fill_tmp (by rfl) (by rw[hsz];decide)).trans (hd 4 (by decide) hg)) (loadI (hcl w hC 0 Y rfl)),grown_refl _ _,fun _=>rfl⟩)
   ·exact flow_skip (fun us w hC hd=>wants_not (d:=6) (b:=true) rfl rfl (by rfl) (by rw[hsz];decide) ((hd 3 (by decide)).trans (by rw[hg];rfl))) (fun _=>grown_refl _ _) (fun _ _ h=>by rw[hg] at h;cases h)
  ·rcases Bool.eq_false_or_eq_true (c1) with hg|hg
   ·exact flow_step (fun us w hC hd=>wants_on (d:=6) (b:=true) rfl rfl (by rfl) (by rw[hsz];decide) ((hd 3 (by decide)).trans (by rw[hg]))) (fun us w hC hd=>⟨_,w,(cmpleq_val rfl ((fill_tmp (by rfl) (by rw[hsz];decide)).trans (hd 5 (by decide) hg)) rfl).trans (by rw[hc2]),grown_refl _ _,fun _=>rfl⟩)
   ·exact flow_skip (fun us w hC hd=>wants_not (d:=6) (b:=true) rfl rfl (by rfl) (by rw[hsz];decide) ((hd 3 (by decide)).trans (by rw[hg];rfl))) (fun _=>grown_refl _ _) (fun _ _ h=>by rw[hg] at h;cases h)
  ·rcases Bool.eq_false_or_eq_true (c1) with hg|hg
   ·exact flow_step (fun us w hC hd=>wants_free rfl) (fun us w hC hd=>⟨_,w,pick_true rfl ((fill_tmp (by rfl) (by rw[hsz];decide)).trans ((hd 3 (by decide)).trans (by rw[hg]))) ((fill_tmp (by rfl) (by rw[hsz];decide)).trans (hd 6 (by decide) hg)),grown_refl _ _,(by rw[hg];rfl:Value.bool (c2)=.bool (c1&&c2))⟩)
   ·exact flow_step (fun us w hC hd=>wants_free rfl) (fun us w hC hd=>⟨_,w,pick_false rfl ((fill_tmp (by rfl) (by rw[hsz];decide)).trans ((hd 3 (by decide)).trans (by rw[hg]))) rfl,grown_refl _ _,(by rw[hg];rfl:Value.bool (false)=.bool (c1&&c2))⟩)
  ·exact flow_step (fun us w hC hd=>wants_free rfl) (fun us w hC hd=>⟨_,w,move_val rfl ((fill_tmp (by rfl) (by rw[hsz];decide)).trans (hd 7 (by decide))),grown_refl _ _,rfl⟩)
  ·rcases Bool.eq_false_or_eq_true ((c1&&c2)) with hg|hg
   ·exact flow_step (fun us w hC hd=>wants_on (d:=11) (b:=true) rfl rfl (by rfl) (by rw[hsz];decide) ((hd 8 (by decide)).trans (by rw[hg]))) (fun us w hC hd=>⟨_,w,fieldA_val rfl ((fill_old (by rfl)).trans h1) (fieldD w B 1 (by decide)),grown_refl _ _,fun _=>rfl⟩)
   ·exact flow_skip (fun us w hC hd=>wants_not (d:=11) (b:=true) rfl rfl (by rfl) (by rw[hsz];decide) ((hd 8 (by decide)).trans (by rw[hg];rfl))) (fun _=>grown_refl _ _) (fun _ _ h=>by rw[hg] at h;cases h)
  ·rcases Bool.eq_false_or_eq_true ((c1&&c2)) with hg|hg
   ·exact flow_step (fun us w hC hd=>wants_on (d:=11) (b:=true) rfl rfl (by rfl) (by rw[hsz];decide) ((hd 8 (by decide)).trans (by rw[hg]))) (fun us w hC hd=>⟨_,w,loadc_val rfl ((fill_tmp (by rfl) (by rw[hsz];decide)).trans (hd 9 (by decide) hg)) (loadI (hcl w hC 1 M rfl)),grown_refl _ _,fun _=>rfl⟩)
   ·exact flow_skip (fun us w hC hd=>wants_not (d:=11) (b:=true) rfl rfl (by rfl) (by rw[hsz];decide) ((hd 8 (by decide)).trans (by rw[hg];rfl))) (fun _=>grown_refl _ _) (fun _ _ h=>by rw[hg] at h;cases h)
  ·rcases Bool.eq_false_or_eq_true ((c1&&c2)) with hg|hg
   ·exact flow_step (fun us w hC hd=>wants_on (d:=11) (b:=true) rfl rfl (by rfl) (by rw[hsz];decide) ((hd 8 (by decide)).trans (by rw[hg]))) (fun us w hC hd=>⟨_,w,(cmpgeq_val rfl ((fill_tmp (by rfl) (by rw[hsz];decide)).trans (hd 10 (by decide) hg)) rfl).trans (by rw[hc3]),grown_refl _ _,fun _=>rfl⟩)
   ·exact flow_skip (fun us w hC hd=>wants_not (d:=11) (b:=true) rfl rfl (by rfl) (by rw[hsz];decide) ((hd 8 (by decide)).trans (by rw[hg];rfl))) (fun _=>grown_refl _ _) (fun _ _ h=>by rw[hg] at h;cases h)
  ·rcases Bool.eq_false_or_eq_true ((c1&&c2)) with hg|hg
   ·exact flow_step (fun us w hC hd=>wants_free rfl) (fun us w hC hd=>⟨_,w,pick_true rfl ((fill_tmp (by rfl) (by rw[hsz];decide)).trans ((hd 8 (by decide)).trans (by rw[hg]))) ((fill_tmp (by rfl) (by rw[hsz];decide)).trans (hd 11 (by decide) hg)),grown_refl _ _,(by rw[hg];rfl:Value.bool (c3)=.bool ((c1&&c2)&&c3))⟩)
   ·exact flow_step (fun us w hC hd=>wants_free rfl) (fun us w hC hd=>⟨_,w,pick_false rfl ((fill_tmp (by rfl) (by rw[hsz];decide)).trans ((hd 8 (by decide)).trans (by rw[hg]))) rfl,grown_refl _ _,(by rw[hg];rfl:Value.bool (false)=.bool ((c1&&c2)&&c3))⟩)
  ·exact flow_step (fun us w hC hd=>wants_free rfl) (fun us w hC hd=>⟨_,w,move_val rfl ((fill_tmp (by rfl) (by rw[hsz];decide)).trans (hd 12 (by decide))),grown_refl _ _,rfl⟩)
  ·rcases Bool.eq_false_or_eq_true (((c1&&c2)&&c3)) with hg|hg
   ·exact flow_step (fun us w hC hd=>wants_on (d:=16) (b:=true) rfl rfl (by rfl) (by rw[hsz];decide) ((hd 13 (by decide)).trans (by rw[hg]))) (fun us w hC hd=>⟨_,w,fieldA_val rfl ((fill_old (by rfl)).trans h1) (fieldD w B 1 (by decide)),grown_refl _ _,fun _=>rfl⟩)
   ·exact flow_skip (fun us w hC hd=>wants_not (d:=16) (b:=true) rfl rfl (by rfl) (by rw[hsz];decide) ((hd 13 (by decide)).trans (by rw[hg];rfl))) (fun _=>grown_refl _ _) (fun _ _ h=>by rw[hg] at h;cases h)
  ·rcases Bool.eq_false_or_eq_true (((c1&&c2)&&c3)) with hg|hg
   ·exact flow_step (fun us w hC hd=>wants_on (d:=16) (b:=true) rfl rfl (by rfl) (by rw[hsz];decide) ((hd 13 (by decide)).trans (by rw[hg]))) (fun us w hC hd=>⟨_,w,loadc_val rfl ((fill_tmp (by rfl) (by rw[hsz];decide)).trans (hd 14 (by decide) hg)) (loadI (hcl w hC 1 M rfl)),grown_refl _ _,fun _=>rfl⟩)
   ·exact flow_skip (fun us w hC hd=>wants_not (d:=16) (b:=true) rfl rfl (by rfl) (by rw[hsz];decide) ((hd 13 (by decide)).trans (by rw[hg];rfl))) (fun _=>grown_refl _ _) (fun _ _ h=>by rw[hg] at h;cases h)
  ·rcases Bool.eq_false_or_eq_true (((c1&&c2)&&c3)) with hg|hg
   ·exact flow_step (fun us w hC hd=>wants_on (d:=16) (b:=true) rfl rfl (by rfl) (by rw[hsz];decide) ((hd 13 (by decide)).trans (by rw[hg]))) (fun us w hC hd=>⟨_,w,(cmpleq_val rfl ((fill_tmp (by rfl) (by rw[hsz];decide)).trans (hd 15 (by decide) hg)) rfl).trans (by rw[hc4]),grown_refl _ _,fun _=>rfl⟩)
   ·exact flow_skip (fun us w hC hd=>wants_not (d:=16) (b:=true) rfl rfl (by rfl) (by rw[hsz];decide) ((hd 13 (by decide)).trans (by rw[hg];rfl))) (fun _=>grown_refl _ _) (fun _ _ h=>by rw[hg] at h;cases h)
  ·rcases Bool.eq_false_or_eq_true (((c1&&c2)&&c3)) with hg|hg
   ·exact flow_step (fun us w hC hd=>wants_free rfl) (fun us w hC hd=>⟨_,w,pick_true rfl ((fill_tmp (by rfl) (by rw[hsz];decide)).trans ((hd 13 (by decide)).trans (by rw[hg]))) ((fill_tmp (by rfl) (by rw[hsz];decide)).trans (hd 16 (by decide) hg)),grown_refl _ _,(by rw[hg];rfl:Value.bool (c4)=.bool (((c1&&c2)&&c3)&&c4))⟩)
   ·exact flow_step (fun us w hC hd=>wants_free rfl) (fun us w hC hd=>⟨_,w,pick_false rfl ((fill_tmp (by rfl) (by rw[hsz];decide)).trans ((hd 13 (by decide)).trans (by rw[hg]))) rfl,grown_refl _ _,(by rw[hg];rfl:Value.bool (false)=.bool (((c1&&c2)&&c3)&&c4))⟩)
  ·exact flow_step (fun us w hC hd=>wants_free rfl) (fun us w hC hd=>⟨_,w,move_val rfl ((fill_tmp (by rfl) (by rw[hsz];decide)).trans (hd 17 (by decide))),grown_refl _ _,rfl⟩)
  ·rcases Bool.eq_false_or_eq_true ((((c1&&c2)&&c3)&&c4)) with hg|hg
   ·exact flow_step (fun us w hC hd=>wants_on (d:=21) (b:=true) rfl rfl (by rfl) (by rw[hsz];decide) ((hd 18 (by decide)).trans (by rw[hg]))) (fun us w hC hd=>⟨_,w,fieldA_val rfl ((fill_old (by rfl)).trans h1) (fieldD w B 2 (by decide)),grown_refl _ _,fun _=>rfl⟩)
   ·exact flow_skip (fun us w hC hd=>wants_not (d:=21) (b:=true) rfl rfl (by rfl) (by rw[hsz];decide) ((hd 18 (by decide)).trans (by rw[hg];rfl))) (fun _=>grown_refl _ _) (fun _ _ h=>by rw[hg] at h;cases h)
  ·rcases Bool.eq_false_or_eq_true ((((c1&&c2)&&c3)&&c4)) with hg|hg
   ·exact flow_step (fun us w hC hd=>wants_on (d:=21) (b:=true) rfl rfl (by rfl) (by rw[hsz];decide) ((hd 18 (by decide)).trans (by rw[hg]))) (fun us w hC hd=>⟨_,w,loadc_val rfl ((fill_tmp (by rfl) (by rw[hsz];decide)).trans (hd 19 (by decide) hg)) (loadI (hcl w hC 2 D rfl)),grown_refl _ _,fun _=>rfl⟩)
   ·exact flow_skip (fun us w hC hd=>wants_not (d:=21) (b:=true) rfl rfl (by rfl) (by rw[hsz];decide) ((hd 18 (by decide)).trans (by rw[hg];rfl))) (fun _=>grown_refl _ _) (fun _ _ h=>by rw[hg] at h;cases h)
  ·rcases Bool.eq_false_or_eq_true ((((c1&&c2)&&c3)&&c4)) with hg|hg
   ·exact flow_step (fun us w hC hd=>wants_on (d:=21) (b:=true) rfl rfl (by rfl) (by rw[hsz];decide) ((hd 18 (by decide)).trans (by rw[hg]))) (fun us w hC hd=>⟨_,w,(cmpgeq_val rfl ((fill_tmp (by rfl) (by rw[hsz];decide)).trans (hd 20 (by decide) hg)) rfl).trans (by rw[hc5]),grown_refl _ _,fun _=>rfl⟩)
   ·exact flow_skip (fun us w hC hd=>wants_not (d:=21) (b:=true) rfl rfl (by rfl) (by rw[hsz];decide) ((hd 18 (by decide)).trans (by rw[hg];rfl))) (fun _=>grown_refl _ _) (fun _ _ h=>by rw[hg] at h;cases h)
  ·rcases Bool.eq_false_or_eq_true ((((c1&&c2)&&c3)&&c4)) with hg|hg
   ·exact flow_step (fun us w hC hd=>wants_free rfl) (fun us w hC hd=>⟨_,w,pick_true rfl ((fill_tmp (by rfl) (by rw[hsz];decide)).trans ((hd 18 (by decide)).trans (by rw[hg]))) ((fill_tmp (by rfl) (by rw[hsz];decide)).trans (hd 21 (by decide) hg)),grown_refl _ _,(by rw[hg];rfl:Value.bool (c5)=.bool ((((c1&&c2)&&c3)&&c4)&&c5))⟩)
   ·exact flow_step (fun us w hC hd=>wants_free rfl) (fun us w hC hd=>⟨_,w,pick_false rfl ((fill_tmp (by rfl) (by rw[hsz];decide)).trans ((hd 18 (by decide)).trans (by rw[hg]))) rfl,grown_refl _ _,(by rw[hg];rfl:Value.bool (false)=.bool ((((c1&&c2)&&c3)&&c4)&&c5))⟩)
  ·exact flow_step (fun us w hC hd=>wants_free rfl) (fun us w hC hd=>⟨_,w,move_val rfl ((fill_tmp (by rfl) (by rw[hsz];decide)).trans (hd 22 (by decide))),grown_refl _ _,rfl⟩)
  ·rcases Bool.eq_false_or_eq_true (((((c1&&c2)&&c3)&&c4)&&c5)) with hg|hg
   ·exact flow_step (fun us w hC hd=>wants_on (d:=26) (b:=true) rfl rfl (by rfl) (by rw[hsz];decide) ((hd 23 (by decide)).trans (by rw[hg]))) (fun us w hC hd=>⟨_,w,fieldA_val rfl ((fill_old (by rfl)).trans h1) (fieldD w B 2 (by decide)),grown_refl _ _,fun _=>rfl⟩)
   ·exact flow_skip (fun us w hC hd=>wants_not (d:=26) (b:=true) rfl rfl (by rfl) (by rw[hsz];decide) ((hd 23 (by decide)).trans (by rw[hg];rfl))) (fun _=>grown_refl _ _) (fun _ _ h=>by rw[hg] at h;cases h)
  ·rcases Bool.eq_false_or_eq_true (((((c1&&c2)&&c3)&&c4)&&c5)) with hg|hg
   ·exact flow_step (fun us w hC hd=>wants_on (d:=26) (b:=true) rfl rfl (by rfl) (by rw[hsz];decide) ((hd 23 (by decide)).trans (by rw[hg]))) (fun us w hC hd=>⟨_,w,loadc_val rfl ((fill_tmp (by rfl) (by rw[hsz];decide)).trans (hd 24 (by decide) hg)) (loadI (hcl w hC 2 D rfl)),grown_refl _ _,fun _=>rfl⟩)
   ·exact flow_skip (fun us w hC hd=>wants_not (d:=26) (b:=true) rfl rfl (by rfl) (by rw[hsz];decide) ((hd 23 (by decide)).trans (by rw[hg];rfl))) (fun _=>grown_refl _ _) (fun _ _ h=>by rw[hg] at h;cases h)
  ·rcases Bool.eq_false_or_eq_true (((((c1&&c2)&&c3)&&c4)&&c5)) with hg|hg
   ·exact flow_step (fun us w hC hd=>wants_on (d:=26) (b:=true) rfl rfl (by rfl) (by rw[hsz];decide) ((hd 23 (by decide)).trans (by rw[hg]))) (fun us w hC hd=>⟨_,w,fieldA_val rfl ((fill_old (by rfl)).trans h1) (fieldD w B 0 (by decide)),grown_refl _ _,fun _=>rfl⟩)
   ·exact flow_skip (fun us w hC hd=>wants_not (d:=26) (b:=true) rfl rfl (by rfl) (by rw[hsz];decide) ((hd 23 (by decide)).trans (by rw[hg];rfl))) (fun _=>grown_refl _ _) (fun _ _ h=>by rw[hg] at h;cases h)
  ·rcases Bool.eq_false_or_eq_true (((((c1&&c2)&&c3)&&c4)&&c5)) with hg|hg
   ·exact flow_step (fun us w hC hd=>wants_on (d:=26) (b:=true) rfl rfl (by rfl) (by rw[hsz];decide) ((hd 23 (by decide)).trans (by rw[hg]))) (fun us w hC hd=>⟨_,w,loadc_val rfl ((fill_tmp (by rfl) (by rw[hsz];decide)).trans (hd 26 (by decide) hg)) (loadI (hcl w hC 0 Y rfl)),grown_refl _ _,fun _=>rfl⟩)
   ·exact flow_skip (fun us w hC hd=>wants_not (d:=26) (b:=true) rfl rfl (by rfl) (by rw[hsz];decide) ((hd 23 (by decide)).trans (by rw[hg];rfl))) (fun _=>grown_refl _ _) (fun _ _ h=>by rw[hg] at h;cases h)
  ·rcases Bool.eq_false_or_eq_true (((((c1&&c2)&&c3)&&c4)&&c5)) with hg|hg
   ·exact flow_step (fun us w hC hd=>wants_on (d:=26) (b:=true) rfl rfl (by rfl) (by rw[hsz];decide) ((hd 23 (by decide)).trans (by rw[hg]))) (fun us w hC hd=>⟨_,w,fieldA_val rfl ((fill_old (by rfl)).trans h1) (fieldD w B 1 (by decide)),grown_refl _ _,fun _=>rfl⟩)
   ·exact flow_skip (fun us w hC hd=>wants_not (d:=26) (b:=true) rfl rfl (by rfl) (by rw[hsz];decide) ((hd 23 (by decide)).trans (by rw[hg];rfl))) (fun _=>grown_refl _ _) (fun _ _ h=>by rw[hg] at h;cases h)
  ·rcases Bool.eq_false_or_eq_true (((((c1&&c2)&&c3)&&c4)&&c5)) with hg|hg
   ·exact flow_step (fun us w hC hd=>wants_on (d:=26) (b:=true) rfl rfl (by rfl) (by rw[hsz];decide) ((hd 23 (by decide)).trans (by rw[hg]))) (fun us w hC hd=>⟨_,w,loadc_val rfl ((fill_tmp (by rfl) (by rw[hsz];decide)).trans (hd 28 (by decide) hg)) (loadI (hcl w hC 1 M rfl)),grown_refl _ _,fun _=>rfl⟩)
   ·exact flow_skip (fun us w hC hd=>wants_not (d:=26) (b:=true) rfl rfl (by rfl) (by rw[hsz];decide) ((hd 23 (by decide)).trans (by rw[hg];rfl))) (fun _=>grown_refl _ _) (fun _ _ h=>by rw[hg] at h;cases h)
  ·rcases Bool.eq_false_or_eq_true (((((c1&&c2)&&c3)&&c4)&&c5)) with hg|hg
   ·refine flow_call 177 (fun us=>#[us 30,us 32]) (fun us w hC hd=>wants_on (d:=26) (b:=true) rfl rfl (by rfl) (by rw[hsz];decide) ((hd 23 (by decide)).trans (by rw[hg]))) (fun us w=>by rw[call_enter rfl (fun _ _=>by simp[go_sem]),List.map_toArray,List.map_cons,List.map_cons,List.map_nil,fill_tmp (by rfl) (by rw[hsz];decide),fill_tmp (by rfl) (by rw[hsz];decide)]) (fun us w hC' hd=>?_)
    rw[show us 30=.int .i64 Y from hd 27 (by decide) hg]
    rw[show us 32=.int .i64 M from hd 29 (by decide) hg]
    exact (hDy w hC').mono (fun e w' h=>⟨_,h.1,h.2,fun _=>rfl⟩)
   ·exact flow_skip (fun us w hC hd=>wants_not (d:=26) (b:=true) rfl rfl (by rfl) (by rw[hsz];decide) ((hd 23 (by decide)).trans (by rw[hg];rfl))) (fun _=>grown_refl _ _) (fun _ _ h=>by rw[hg] at h;cases h)
  ·rcases Bool.eq_false_or_eq_true (((((c1&&c2)&&c3)&&c4)&&c5)) with hg|hg
   ·exact flow_step (fun us w hC hd=>wants_on (d:=26) (b:=true) rfl rfl (by rfl) (by rw[hsz];decide) ((hd 23 (by decide)).trans (by rw[hg]))) (fun us w hC hd=>⟨_,w,(cmpleq_val rfl ((fill_tmp (by rfl) (by rw[hsz];decide)).trans (hd 25 (by decide) hg)) ((fill_tmp (by rfl) (by rw[hsz];decide)).trans (hd 30 (by decide) hg))).trans (by rw[hc6]),grown_refl _ _,fun _=>rfl⟩)
   ·exact flow_skip (fun us w hC hd=>wants_not (d:=26) (b:=true) rfl rfl (by rfl) (by rw[hsz];decide) ((hd 23 (by decide)).trans (by rw[hg];rfl))) (fun _=>grown_refl _ _) (fun _ _ h=>by rw[hg] at h;cases h)
  ·rcases Bool.eq_false_or_eq_true (((((c1&&c2)&&c3)&&c4)&&c5)) with hg|hg
   ·exact flow_step (fun us w hC hd=>wants_free rfl) (fun us w hC hd=>⟨_,w,pick_true rfl ((fill_tmp (by rfl) (by rw[hsz];decide)).trans ((hd 23 (by decide)).trans (by rw[hg]))) ((fill_tmp (by rfl) (by rw[hsz];decide)).trans (hd 31 (by decide) hg)),grown_refl _ _,(by rw[hg];rfl:Value.bool (c6)=.bool (((((c1&&c2)&&c3)&&c4)&&c5)&&c6))⟩)
   ·exact flow_step (fun us w hC hd=>wants_free rfl) (fun us w hC hd=>⟨_,w,pick_false rfl ((fill_tmp (by rfl) (by rw[hsz];decide)).trans ((hd 23 (by decide)).trans (by rw[hg]))) rfl,grown_refl _ _,(by rw[hg];rfl:Value.bool (false)=.bool (((((c1&&c2)&&c3)&&c4)&&c5)&&c6))⟩)
  ·exact flow_step (fun us w hC hd=>wants_free rfl) (fun us w hC hd=>⟨_,w,move_val rfl ((fill_tmp (by rfl) (by rw[hsz];decide)).trans (hd 32 (by decide))),grown_refl _ _,rfl⟩)
  ·rcases Bool.eq_false_or_eq_true ((((((c1&&c2)&&c3)&&c4)&&c5)&&c6)) with hg|hg
   ·exact flow_step (fun us w hC hd=>wants_on (d:=36) (b:=true) rfl rfl (by rfl) (by rw[hsz];decide) ((hd 33 (by decide)).trans (by rw[hg]))) (fun us w hC hd=>⟨_,w,fieldA_val rfl ((fill_old (by rfl)).trans h1) (fieldD w B 3 (by decide)),grown_refl _ _,fun _=>rfl⟩)
   ·exact flow_skip (fun us w hC hd=>wants_not (d:=36) (b:=true) rfl rfl (by rfl) (by rw[hsz];decide) ((hd 33 (by decide)).trans (by rw[hg];rfl))) (fun _=>grown_refl _ _) (fun _ _ h=>by rw[hg] at h;cases h)
  ·rcases Bool.eq_false_or_eq_true ((((((c1&&c2)&&c3)&&c4)&&c5)&&c6)) with hg|hg
   ·exact flow_step (fun us w hC hd=>wants_on (d:=36) (b:=true) rfl rfl (by rfl) (by rw[hsz];decide) ((hd 33 (by decide)).trans (by rw[hg]))) (fun us w hC hd=>⟨_,w,loadc_val rfl ((fill_tmp (by rfl) (by rw[hsz];decide)).trans (hd 34 (by decide) hg)) (loadI (hcl w hC 3 h rfl)),grown_refl _ _,fun _=>rfl⟩)
   ·exact flow_skip (fun us w hC hd=>wants_not (d:=36) (b:=true) rfl rfl (by rfl) (by rw[hsz];decide) ((hd 33 (by decide)).trans (by rw[hg];rfl))) (fun _=>grown_refl _ _) (fun _ _ h=>by rw[hg] at h;cases h)
  ·rcases Bool.eq_false_or_eq_true ((((((c1&&c2)&&c3)&&c4)&&c5)&&c6)) with hg|hg
   ·exact flow_step (fun us w hC hd=>wants_on (d:=36) (b:=true) rfl rfl (by rfl) (by rw[hsz];decide) ((hd 33 (by decide)).trans (by rw[hg]))) (fun us w hC hd=>⟨_,w,(cmpgeq_val rfl ((fill_tmp (by rfl) (by rw[hsz];decide)).trans (hd 35 (by decide) hg)) rfl).trans (by rw[hc7]),grown_refl _ _,fun _=>rfl⟩)
   ·exact flow_skip (fun us w hC hd=>wants_not (d:=36) (b:=true) rfl rfl (by rfl) (by rw[hsz];decide) ((hd 33 (by decide)).trans (by rw[hg];rfl))) (fun _=>grown_refl _ _) (fun _ _ h=>by rw[hg] at h;cases h)
  ·rcases Bool.eq_false_or_eq_true ((((((c1&&c2)&&c3)&&c4)&&c5)&&c6)) with hg|hg
   ·exact flow_step (fun us w hC hd=>wants_free rfl) (fun us w hC hd=>⟨_,w,pick_true rfl ((fill_tmp (by rfl) (by rw[hsz];decide)).trans ((hd 33 (by decide)).trans (by rw[hg]))) ((fill_tmp (by rfl) (by rw[hsz];decide)).trans (hd 36 (by decide) hg)),grown_refl _ _,(by rw[hg];rfl:Value.bool (c7)=.bool ((((((c1&&c2)&&c3)&&c4)&&c5)&&c6)&&c7))⟩)
   ·exact flow_step (fun us w hC hd=>wants_free rfl) (fun us w hC hd=>⟨_,w,pick_false rfl ((fill_tmp (by rfl) (by rw[hsz];decide)).trans ((hd 33 (by decide)).trans (by rw[hg]))) rfl,grown_refl _ _,(by rw[hg];rfl:Value.bool (false)=.bool ((((((c1&&c2)&&c3)&&c4)&&c5)&&c6)&&c7))⟩)
  ·exact flow_step (fun us w hC hd=>wants_free rfl) (fun us w hC hd=>⟨_,w,move_val rfl ((fill_tmp (by rfl) (by rw[hsz];decide)).trans (hd 37 (by decide))),grown_refl _ _,rfl⟩)
  ·rcases Bool.eq_false_or_eq_true (((((((c1&&c2)&&c3)&&c4)&&c5)&&c6)&&c7)) with hg|hg
   ·exact flow_step (fun us w hC hd=>wants_on (d:=41) (b:=true) rfl rfl (by rfl) (by rw[hsz];decide) ((hd 38 (by decide)).trans (by rw[hg]))) (fun us w hC hd=>⟨_,w,fieldA_val rfl ((fill_old (by rfl)).trans h1) (fieldD w B 3 (by decide)),grown_refl _ _,fun _=>rfl⟩)
   ·exact flow_skip (fun us w hC hd=>wants_not (d:=41) (b:=true) rfl rfl (by rfl) (by rw[hsz];decide) ((hd 38 (by decide)).trans (by rw[hg];rfl))) (fun _=>grown_refl _ _) (fun _ _ h=>by rw[hg] at h;cases h)
  ·rcases Bool.eq_false_or_eq_true (((((((c1&&c2)&&c3)&&c4)&&c5)&&c6)&&c7)) with hg|hg
   ·exact flow_step (fun us w hC hd=>wants_on (d:=41) (b:=true) rfl rfl (by rfl) (by rw[hsz];decide) ((hd 38 (by decide)).trans (by rw[hg]))) (fun us w hC hd=>⟨_,w,loadc_val rfl ((fill_tmp (by rfl) (by rw[hsz];decide)).trans (hd 39 (by decide) hg)) (loadI (hcl w hC 3 h rfl)),grown_refl _ _,fun _=>rfl⟩)
   ·exact flow_skip (fun us w hC hd=>wants_not (d:=41) (b:=true) rfl rfl (by rfl) (by rw[hsz];decide) ((hd 38 (by decide)).trans (by rw[hg];rfl))) (fun _=>grown_refl _ _) (fun _ _ h=>by rw[hg] at h;cases h)
  ·rcases Bool.eq_false_or_eq_true (((((((c1&&c2)&&c3)&&c4)&&c5)&&c6)&&c7)) with hg|hg
   ·exact flow_step (fun us w hC hd=>wants_on (d:=41) (b:=true) rfl rfl (by rfl) (by rw[hsz];decide) ((hd 38 (by decide)).trans (by rw[hg]))) (fun us w hC hd=>⟨_,w,(cmpleq_val rfl ((fill_tmp (by rfl) (by rw[hsz];decide)).trans (hd 40 (by decide) hg)) rfl).trans (by rw[hc8]),grown_refl _ _,fun _=>rfl⟩)
   ·exact flow_skip (fun us w hC hd=>wants_not (d:=41) (b:=true) rfl rfl (by rfl) (by rw[hsz];decide) ((hd 38 (by decide)).trans (by rw[hg];rfl))) (fun _=>grown_refl _ _) (fun _ _ h=>by rw[hg] at h;cases h)
  ·rcases Bool.eq_false_or_eq_true (((((((c1&&c2)&&c3)&&c4)&&c5)&&c6)&&c7)) with hg|hg
   ·exact flow_step (fun us w hC hd=>wants_free rfl) (fun us w hC hd=>⟨_,w,pick_true rfl ((fill_tmp (by rfl) (by rw[hsz];decide)).trans ((hd 38 (by decide)).trans (by rw[hg]))) ((fill_tmp (by rfl) (by rw[hsz];decide)).trans (hd 41 (by decide) hg)),grown_refl _ _,(by rw[hg];rfl:Value.bool (c8)=.bool (((((((c1&&c2)&&c3)&&c4)&&c5)&&c6)&&c7)&&c8))⟩)
   ·exact flow_step (fun us w hC hd=>wants_free rfl) (fun us w hC hd=>⟨_,w,pick_false rfl ((fill_tmp (by rfl) (by rw[hsz];decide)).trans ((hd 38 (by decide)).trans (by rw[hg]))) rfl,grown_refl _ _,(by rw[hg];rfl:Value.bool (false)=.bool (((((((c1&&c2)&&c3)&&c4)&&c5)&&c6)&&c7)&&c8))⟩)
  ·exact flow_step (fun us w hC hd=>wants_free rfl) (fun us w hC hd=>⟨_,w,move_val rfl ((fill_tmp (by rfl) (by rw[hsz];decide)).trans (hd 42 (by decide))),grown_refl _ _,rfl⟩)
  ·rcases Bool.eq_false_or_eq_true ((((((((c1&&c2)&&c3)&&c4)&&c5)&&c6)&&c7)&&c8)) with hg|hg
   ·exact flow_step (fun us w hC hd=>wants_on (d:=46) (b:=true) rfl rfl (by rfl) (by rw[hsz];decide) ((hd 43 (by decide)).trans (by rw[hg]))) (fun us w hC hd=>⟨_,w,fieldA_val rfl ((fill_old (by rfl)).trans h1) (fieldD w B 4 (by decide)),grown_refl _ _,fun _=>rfl⟩)
   ·exact flow_skip (fun us w hC hd=>wants_not (d:=46) (b:=true) rfl rfl (by rfl) (by rw[hsz];decide) ((hd 43 (by decide)).trans (by rw[hg];rfl))) (fun _=>grown_refl _ _) (fun _ _ h=>by rw[hg] at h;cases h)
  ·rcases Bool.eq_false_or_eq_true ((((((((c1&&c2)&&c3)&&c4)&&c5)&&c6)&&c7)&&c8)) with hg|hg
   ·exact flow_step (fun us w hC hd=>wants_on (d:=46) (b:=true) rfl rfl (by rfl) (by rw[hsz];decide) ((hd 43 (by decide)).trans (by rw[hg]))) (fun us w hC hd=>⟨_,w,loadc_val rfl ((fill_tmp (by rfl) (by rw[hsz];decide)).trans (hd 44 (by decide) hg)) (loadI (hcl w hC 4 mi rfl)),grown_refl _ _,fun _=>rfl⟩)
   ·exact flow_skip (fun us w hC hd=>wants_not (d:=46) (b:=true) rfl rfl (by rfl) (by rw[hsz];decide) ((hd 43 (by decide)).trans (by rw[hg];rfl))) (fun _=>grown_refl _ _) (fun _ _ h=>by rw[hg] at h;cases h)
  ·rcases Bool.eq_false_or_eq_true ((((((((c1&&c2)&&c3)&&c4)&&c5)&&c6)&&c7)&&c8)) with hg|hg
   ·exact flow_step (fun us w hC hd=>wants_on (d:=46) (b:=true) rfl rfl (by rfl) (by rw[hsz];decide) ((hd 43 (by decide)).trans (by rw[hg]))) (fun us w hC hd=>⟨_,w,(cmpgeq_val rfl ((fill_tmp (by rfl) (by rw[hsz];decide)).trans (hd 45 (by decide) hg)) rfl).trans (by rw[hc9]),grown_refl _ _,fun _=>rfl⟩)
   ·exact flow_skip (fun us w hC hd=>wants_not (d:=46) (b:=true) rfl rfl (by rfl) (by rw[hsz];decide) ((hd 43 (by decide)).trans (by rw[hg];rfl))) (fun _=>grown_refl _ _) (fun _ _ h=>by rw[hg] at h;cases h)
  ·rcases Bool.eq_false_or_eq_true ((((((((c1&&c2)&&c3)&&c4)&&c5)&&c6)&&c7)&&c8)) with hg|hg
   ·exact flow_step (fun us w hC hd=>wants_free rfl) (fun us w hC hd=>⟨_,w,pick_true rfl ((fill_tmp (by rfl) (by rw[hsz];decide)).trans ((hd 43 (by decide)).trans (by rw[hg]))) ((fill_tmp (by rfl) (by rw[hsz];decide)).trans (hd 46 (by decide) hg)),grown_refl _ _,(by rw[hg];rfl:Value.bool (c9)=.bool ((((((((c1&&c2)&&c3)&&c4)&&c5)&&c6)&&c7)&&c8)&&c9))⟩)
   ·exact flow_step (fun us w hC hd=>wants_free rfl) (fun us w hC hd=>⟨_,w,pick_false rfl ((fill_tmp (by rfl) (by rw[hsz];decide)).trans ((hd 43 (by decide)).trans (by rw[hg]))) rfl,grown_refl _ _,(by rw[hg];rfl:Value.bool (false)=.bool ((((((((c1&&c2)&&c3)&&c4)&&c5)&&c6)&&c7)&&c8)&&c9))⟩)
  ·exact flow_step (fun us w hC hd=>wants_free rfl) (fun us w hC hd=>⟨_,w,move_val rfl ((fill_tmp (by rfl) (by rw[hsz];decide)).trans (hd 47 (by decide))),grown_refl _ _,rfl⟩)
  ·rcases Bool.eq_false_or_eq_true (((((((((c1&&c2)&&c3)&&c4)&&c5)&&c6)&&c7)&&c8)&&c9)) with hg|hg
   ·exact flow_step (fun us w hC hd=>wants_on (d:=51) (b:=true) rfl rfl (by rfl) (by rw[hsz];decide) ((hd 48 (by decide)).trans (by rw[hg]))) (fun us w hC hd=>⟨_,w,fieldA_val rfl ((fill_old (by rfl)).trans h1) (fieldD w B 4 (by decide)),grown_refl _ _,fun _=>rfl⟩)
   ·exact flow_skip (fun us w hC hd=>wants_not (d:=51) (b:=true) rfl rfl (by rfl) (by rw[hsz];decide) ((hd 48 (by decide)).trans (by rw[hg];rfl))) (fun _=>grown_refl _ _) (fun _ _ h=>by rw[hg] at h;cases h)
  ·rcases Bool.eq_false_or_eq_true (((((((((c1&&c2)&&c3)&&c4)&&c5)&&c6)&&c7)&&c8)&&c9)) with hg|hg
   ·exact flow_step (fun us w hC hd=>wants_on (d:=51) (b:=true) rfl rfl (by rfl) (by rw[hsz];decide) ((hd 48 (by decide)).trans (by rw[hg]))) (fun us w hC hd=>⟨_,w,loadc_val rfl ((fill_tmp (by rfl) (by rw[hsz];decide)).trans (hd 49 (by decide) hg)) (loadI (hcl w hC 4 mi rfl)),grown_refl _ _,fun _=>rfl⟩)
   ·exact flow_skip (fun us w hC hd=>wants_not (d:=51) (b:=true) rfl rfl (by rfl) (by rw[hsz];decide) ((hd 48 (by decide)).trans (by rw[hg];rfl))) (fun _=>grown_refl _ _) (fun _ _ h=>by rw[hg] at h;cases h)
  ·rcases Bool.eq_false_or_eq_true (((((((((c1&&c2)&&c3)&&c4)&&c5)&&c6)&&c7)&&c8)&&c9)) with hg|hg
   ·exact flow_step (fun us w hC hd=>wants_on (d:=51) (b:=true) rfl rfl (by rfl) (by rw[hsz];decide) ((hd 48 (by decide)).trans (by rw[hg]))) (fun us w hC hd=>⟨_,w,(cmpleq_val rfl ((fill_tmp (by rfl) (by rw[hsz];decide)).trans (hd 50 (by decide) hg)) rfl).trans (by rw[hc10]),grown_refl _ _,fun _=>rfl⟩)
   ·exact flow_skip (fun us w hC hd=>wants_not (d:=51) (b:=true) rfl rfl (by rfl) (by rw[hsz];decide) ((hd 48 (by decide)).trans (by rw[hg];rfl))) (fun _=>grown_refl _ _) (fun _ _ h=>by rw[hg] at h;cases h)
  ·rcases Bool.eq_false_or_eq_true (((((((((c1&&c2)&&c3)&&c4)&&c5)&&c6)&&c7)&&c8)&&c9)) with hg|hg
   ·exact flow_step (fun us w hC hd=>wants_free rfl) (fun us w hC hd=>⟨_,w,pick_true rfl ((fill_tmp (by rfl) (by rw[hsz];decide)).trans ((hd 48 (by decide)).trans (by rw[hg]))) ((fill_tmp (by rfl) (by rw[hsz];decide)).trans (hd 51 (by decide) hg)),grown_refl _ _,(by rw[hg];rfl:Value.bool (c10)=.bool (((((((((c1&&c2)&&c3)&&c4)&&c5)&&c6)&&c7)&&c8)&&c9)&&c10))⟩)
   ·exact flow_step (fun us w hC hd=>wants_free rfl) (fun us w hC hd=>⟨_,w,pick_false rfl ((fill_tmp (by rfl) (by rw[hsz];decide)).trans ((hd 48 (by decide)).trans (by rw[hg]))) rfl,grown_refl _ _,(by rw[hg];rfl:Value.bool (false)=.bool (((((((((c1&&c2)&&c3)&&c4)&&c5)&&c6)&&c7)&&c8)&&c9)&&c10))⟩)
  ·exact flow_step (fun us w hC hd=>wants_free rfl) (fun us w hC hd=>⟨_,w,move_val rfl ((fill_tmp (by rfl) (by rw[hsz];decide)).trans (hd 52 (by decide))),grown_refl _ _,rfl⟩)
  ·rcases Bool.eq_false_or_eq_true ((((((((((c1&&c2)&&c3)&&c4)&&c5)&&c6)&&c7)&&c8)&&c9)&&c10)) with hg|hg
   ·exact flow_step (fun us w hC hd=>wants_on (d:=56) (b:=true) rfl rfl (by rfl) (by rw[hsz];decide) ((hd 53 (by decide)).trans (by rw[hg]))) (fun us w hC hd=>⟨_,w,fieldA_val rfl ((fill_old (by rfl)).trans h1) (fieldD w B 5 (by decide)),grown_refl _ _,fun _=>rfl⟩)
   ·exact flow_skip (fun us w hC hd=>wants_not (d:=56) (b:=true) rfl rfl (by rfl) (by rw[hsz];decide) ((hd 53 (by decide)).trans (by rw[hg];rfl))) (fun _=>grown_refl _ _) (fun _ _ h=>by rw[hg] at h;cases h)
  ·rcases Bool.eq_false_or_eq_true ((((((((((c1&&c2)&&c3)&&c4)&&c5)&&c6)&&c7)&&c8)&&c9)&&c10)) with hg|hg
   ·exact flow_step (fun us w hC hd=>wants_on (d:=56) (b:=true) rfl rfl (by rfl) (by rw[hsz];decide) ((hd 53 (by decide)).trans (by rw[hg]))) (fun us w hC hd=>⟨_,w,loadc_val rfl ((fill_tmp (by rfl) (by rw[hsz];decide)).trans (hd 54 (by decide) hg)) (loadI (hcl w hC 5 s rfl)),grown_refl _ _,fun _=>rfl⟩)
   ·exact flow_skip (fun us w hC hd=>wants_not (d:=56) (b:=true) rfl rfl (by rfl) (by rw[hsz];decide) ((hd 53 (by decide)).trans (by rw[hg];rfl))) (fun _=>grown_refl _ _) (fun _ _ h=>by rw[hg] at h;cases h)
  ·rcases Bool.eq_false_or_eq_true ((((((((((c1&&c2)&&c3)&&c4)&&c5)&&c6)&&c7)&&c8)&&c9)&&c10)) with hg|hg
   ·exact flow_step (fun us w hC hd=>wants_on (d:=56) (b:=true) rfl rfl (by rfl) (by rw[hsz];decide) ((hd 53 (by decide)).trans (by rw[hg]))) (fun us w hC hd=>⟨_,w,(cmpgeq_val rfl ((fill_tmp (by rfl) (by rw[hsz];decide)).trans (hd 55 (by decide) hg)) rfl).trans (by rw[hc11]),grown_refl _ _,fun _=>rfl⟩)
   ·exact flow_skip (fun us w hC hd=>wants_not (d:=56) (b:=true) rfl rfl (by rfl) (by rw[hsz];decide) ((hd 53 (by decide)).trans (by rw[hg];rfl))) (fun _=>grown_refl _ _) (fun _ _ h=>by rw[hg] at h;cases h)
  ·rcases Bool.eq_false_or_eq_true ((((((((((c1&&c2)&&c3)&&c4)&&c5)&&c6)&&c7)&&c8)&&c9)&&c10)) with hg|hg
   ·exact flow_step (fun us w hC hd=>wants_free rfl) (fun us w hC hd=>⟨_,w,pick_true rfl ((fill_tmp (by rfl) (by rw[hsz];decide)).trans ((hd 53 (by decide)).trans (by rw[hg]))) ((fill_tmp (by rfl) (by rw[hsz];decide)).trans (hd 56 (by decide) hg)),grown_refl _ _,(by rw[hg];rfl:Value.bool (c11)=.bool ((((((((((c1&&c2)&&c3)&&c4)&&c5)&&c6)&&c7)&&c8)&&c9)&&c10)&&c11))⟩)
   ·exact flow_step (fun us w hC hd=>wants_free rfl) (fun us w hC hd=>⟨_,w,pick_false rfl ((fill_tmp (by rfl) (by rw[hsz];decide)).trans ((hd 53 (by decide)).trans (by rw[hg]))) rfl,grown_refl _ _,(by rw[hg];rfl:Value.bool (false)=.bool ((((((((((c1&&c2)&&c3)&&c4)&&c5)&&c6)&&c7)&&c8)&&c9)&&c10)&&c11))⟩)
  ·exact flow_step (fun us w hC hd=>wants_free rfl) (fun us w hC hd=>⟨_,w,move_val rfl ((fill_tmp (by rfl) (by rw[hsz];decide)).trans (hd 57 (by decide))),grown_refl _ _,rfl⟩)
  ·rcases Bool.eq_false_or_eq_true (((((((((((c1&&c2)&&c3)&&c4)&&c5)&&c6)&&c7)&&c8)&&c9)&&c10)&&c11)) with hg|hg
   ·exact flow_step (fun us w hC hd=>wants_on (d:=61) (b:=true) rfl rfl (by rfl) (by rw[hsz];decide) ((hd 58 (by decide)).trans (by rw[hg]))) (fun us w hC hd=>⟨_,w,fieldA_val rfl ((fill_old (by rfl)).trans h1) (fieldD w B 5 (by decide)),grown_refl _ _,fun _=>rfl⟩)
   ·exact flow_skip (fun us w hC hd=>wants_not (d:=61) (b:=true) rfl rfl (by rfl) (by rw[hsz];decide) ((hd 58 (by decide)).trans (by rw[hg];rfl))) (fun _=>grown_refl _ _) (fun _ _ h=>by rw[hg] at h;cases h)
  ·rcases Bool.eq_false_or_eq_true (((((((((((c1&&c2)&&c3)&&c4)&&c5)&&c6)&&c7)&&c8)&&c9)&&c10)&&c11)) with hg|hg
   ·exact flow_step (fun us w hC hd=>wants_on (d:=61) (b:=true) rfl rfl (by rfl) (by rw[hsz];decide) ((hd 58 (by decide)).trans (by rw[hg]))) (fun us w hC hd=>⟨_,w,loadc_val rfl ((fill_tmp (by rfl) (by rw[hsz];decide)).trans (hd 59 (by decide) hg)) (loadI (hcl w hC 5 s rfl)),grown_refl _ _,fun _=>rfl⟩)
   ·exact flow_skip (fun us w hC hd=>wants_not (d:=61) (b:=true) rfl rfl (by rfl) (by rw[hsz];decide) ((hd 58 (by decide)).trans (by rw[hg];rfl))) (fun _=>grown_refl _ _) (fun _ _ h=>by rw[hg] at h;cases h)
  ·rcases Bool.eq_false_or_eq_true (((((((((((c1&&c2)&&c3)&&c4)&&c5)&&c6)&&c7)&&c8)&&c9)&&c10)&&c11)) with hg|hg
   ·exact flow_step (fun us w hC hd=>wants_on (d:=61) (b:=true) rfl rfl (by rfl) (by rw[hsz];decide) ((hd 58 (by decide)).trans (by rw[hg]))) (fun us w hC hd=>⟨_,w,(cmpleq_val rfl ((fill_tmp (by rfl) (by rw[hsz];decide)).trans (hd 60 (by decide) hg)) rfl).trans (by rw[hc12]),grown_refl _ _,fun _=>rfl⟩)
   ·exact flow_skip (fun us w hC hd=>wants_not (d:=61) (b:=true) rfl rfl (by rfl) (by rw[hsz];decide) ((hd 58 (by decide)).trans (by rw[hg];rfl))) (fun _=>grown_refl _ _) (fun _ _ h=>by rw[hg] at h;cases h)
  ·rcases Bool.eq_false_or_eq_true (((((((((((c1&&c2)&&c3)&&c4)&&c5)&&c6)&&c7)&&c8)&&c9)&&c10)&&c11)) with hg|hg
   ·exact flow_step (fun us w hC hd=>wants_free rfl) (fun us w hC hd=>⟨_,w,pick_true rfl ((fill_tmp (by rfl) (by rw[hsz];decide)).trans ((hd 58 (by decide)).trans (by rw[hg]))) ((fill_tmp (by rfl) (by rw[hsz];decide)).trans (hd 61 (by decide) hg)),grown_refl _ _,(by rw[hg];rfl:Value.bool (c12)=.bool (((((((((((c1&&c2)&&c3)&&c4)&&c5)&&c6)&&c7)&&c8)&&c9)&&c10)&&c11)&&c12))⟩)
   ·exact flow_step (fun us w hC hd=>wants_free rfl) (fun us w hC hd=>⟨_,w,pick_false rfl ((fill_tmp (by rfl) (by rw[hsz];decide)).trans ((hd 58 (by decide)).trans (by rw[hg]))) rfl,grown_refl _ _,(by rw[hg];rfl:Value.bool (false)=.bool (((((((((((c1&&c2)&&c3)&&c4)&&c5)&&c6)&&c7)&&c8)&&c9)&&c10)&&c11)&&c12))⟩)
 ·intro us w' hC' hd
  exact wpList_last rfl (assign_val rfl ((fill_tmp (by rfl) (by rw[hsz];decide)).trans (hd 62 (by decide)))) (hQ us w' hC')
section
variable {P:Program} {a:Act} {o:Oper} {w:World}
theorem neqstr2_val {t r:TypeId} {x y:Operand} {s s':ByteArray} (ho:o.op=.binOp .neq t x y r) (hx:a.eval x=.string s) (hy:a.eval y=.string s'):(execOp a.eval o).run P w=.ok (.value (.bool (!(s.toList==s'.toList)))) w:=by
 simp only[execOp,ho,hx,hy]
 simp[eqGuard,Sem.run_pure,binOp,Op.stringOp,bne]
theorem slice2_val {t:TypeId} {x lo hi:Operand} {p u v z:Value} (ho:o.op=.slice t x (some lo) (some hi) none) (hx:a.eval x=p) (hl:a.eval lo=u) (hh:a.eval hi=v) (h:(Instr.sliceAt t p (some u) (some v) none).run P w=.ok z w) :
  (execOp a.eval o).run P w=.ok (.value z) w:=by
 simp only[execOp,ho,hx,hl,hh,Option.map_some,Option.map_none]
 simp[h,Sem.run_bind,Result.andThen]
end
noncomputable def nx_regionC:Code:=regionIn Tryz.f107.body 20
theorem nx_region (a:Act) (v u:Value) (n m:Int) (S S2:ByteArray) (B:List Nat) (W w:World) (Q:Exit→Act→World→Prop) (hsz:a.tmps.size=81)
  (h0:a.eval (.tmp 0)=v)
  (h6:a.eval (.tmp 6)=.int .i64 n)
  (h7:a.eval (.tmp 7)=.int .i64 m)
  (hF:∀ w,W.grownBy w none→Calls Tryz.prog 156 #[.int .i64 n] w fun e w'=>∃ v,e=.returned v∧w.grownBy w' none∧isB B v w')
  (hSa:∀ w,W.grownBy w none→(convert 22 9 u).run Tryz.prog w=.ok (.string S2) w)
  (hSu:∀ w x,Bytes w x B→(convert 22 9 x).run Tryz.prog w=.ok (.string S) w)
  (hSl:∀ w,(Instr.sliceAt 22 v (some (.int .i64 1)) (some (.int .i64 m)) none).run Tryz.prog w=.ok u w)
  (hw:W.grownBy { w with drawn:=w.drawn+1 } none)
  (hQ:∀ us w',W.grownBy w' none→Q .normal ((fill a [57,58,59,60,61,62,63] us).put (some 64) (.bool (!(S.toList==S2.toList)))) w'):nx_regionC.wp Tryz.prog Q a w:=by
 have hst:StaysAll [isV (.int .i64 n),isB B,isV (.string S),isV (v),isV (.int .i64 m),isV (u),isV (.string S2)]:=⟨stays_V _,stays_B _,stays_V _,stays_V _,stays_V _,stays_V _,stays_V _,trivial⟩
 conv=>arg 2;whnf
 refine wp_region_flow 7 [57,58,59,60,61,62,63] (fun w'=>W.grownBy w' none) (fun w w'=>w.grownBy w' none) (flF [isV (.int .i64 n),isB B,isV (.string S),isV (v),isV (.int .i64 m),isV (u),isV (.string S2)]) (by kernel_rfl) (by kernel_rfl) (fun _ _ h k=>grown_trans k h) (fun j x w w' hg h=>flF_stays hst j x w w' hg h) hw ?_ ?_
 ·refine ⟨?_,?_,?_,?_,?_,?_,?_,trivial⟩
  ·exact flow_step (fun us w hC hd=>wants_free rfl) (fun us w hC hd=>⟨_,w,move_val rfl ((fill_old (by rfl)).trans h6),grown_refl _ _,rfl⟩)
  ·refine flow_call 156 (fun us=>#[us 57]) (fun us w hC hd=>wants_free rfl) (fun us w=>by rw[call_enter rfl (fun _ _=>by simp[go_sem]),List.map_toArray,List.map_cons,List.map_nil,fill_tmp (by rfl) (by rw[hsz];decide)]) (fun us w hC' hd=>?_)
   rw[show us 57=.int .i64 n from hd 0 (by decide)]
   exact hF w hC'
  ·exact flow_step (fun us w hC hd=>wants_free rfl) (fun us w hC hd=>⟨_,w,conv_val rfl (fill_tmp (by rfl) (by rw[hsz];decide)) (hSu w _ (hd 1 (by decide))),grown_refl _ _,rfl⟩)
  ·exact flow_step (fun us w hC hd=>wants_free rfl) (fun us w hC hd=>⟨_,w,move_val rfl ((fill_old (by rfl)).trans h0),grown_refl _ _,rfl⟩)
  ·exact flow_step (fun us w hC hd=>wants_free rfl) (fun us w hC hd=>⟨_,w,move_val rfl ((fill_old (by rfl)).trans h7),grown_refl _ _,rfl⟩)
  ·exact flow_step (fun us w hC hd=>wants_free rfl) (fun us w hC hd=>⟨_,w,slice2_val rfl ((fill_tmp (by rfl) (by rw[hsz];decide)).trans (hd 3 (by decide))) rfl ((fill_tmp (by rfl) (by rw[hsz];decide)).trans (hd 4 (by decide))) (hSl w),grown_refl _ _,rfl⟩)
  ·exact flow_step (fun us w hC hd=>wants_free rfl) (fun us w hC hd=>⟨_,w,conv_val rfl ((fill_tmp (by rfl) (by rw[hsz];decide)).trans (hd 5 (by decide))) (hSa w hC),grown_refl _ _,rfl⟩)
 ·intro us w' hC' hd
  exact wpList_last rfl (neqstr2_val rfl ((fill_tmp (by rfl) (by rw[hsz];decide)).trans (hd 2 (by decide))) ((fill_tmp (by rfl) (by rw[hsz];decide)).trans (hd 6 (by decide)))) (hQ us w' hC')
section
variable {P:Program} {a:Act} {o:Oper} {w:World}
theorem build6_val {t:TypeId} {x0 x1 x2 x3 x4 x5:Operand} {p0 p1 p2 p3 p4 p5 v:Value} (ho:o.op=.build t #[(0,x0),(1,x1),(2,x2),(3,x3),(4,x4),(5,x5)]) (h0:a.eval x0=p0) (h1:a.eval x1=p1) (h2:a.eval x2=p2) (h3:a.eval x3=p3) (h4:a.eval x4=p4) (h5:a.eval x5=p5)
  (h:(Instr.build t #[(0,p0),(1,p1),(2,p2),(3,p3),(4,p4),(5,p5)]).run P w=.ok v w):(execOp a.eval o).run P w=.ok (.value v) w:=by
 simp[execOp,ho,h0,h1,h2,h3,h4,h5,h,Result.andThen]
theorem alloc_valD {t:TypeId} {v:Value} {w':World} (ho:o.op=.alloc t) (h:(Instr.alloc t true (.tuple #[])).run P w=.ok v w'):(execOp a.eval o).run P w=.ok (.value v) w':=by
 simp[execOp,ho,h,Result.andThen]
end
theorem buildDt (w:World) (z0 z1 z2 z3 z4 z5:Int):(Instr.build 182 #[(0,.int .i64 z0),(1,.int .i64 z1),(2,.int .i64 z2),(3,.int .i64 z3),(4,.int .i64 z4),(5,.int .i64 z5)]).run Tryz.prog w=.ok (.agg #[.int .i64 z0,.int .i64 z1,.int .i64 z2,.int .i64 z3,.int .i64 z4,.int .i64 z5]) w:=by simp[go_sem]
theorem allocDt (w:World):(Instr.alloc 182 true (.tuple #[])).run Tryz.prog w=.ok (.pointer (some ⟨w.heap.size,0,none⟩)) (w.alloc (.cells #[.int .i64 0,.int .i64 0,.int .i64 0,.int .i64 0,.int .i64 0,.int .i64 0] 182 (0,0))):=by simp[go_sem]
def isNewD (W:World):Value→World→Prop:=fun x w=>∃ b,x=.pointer (some ⟨b,0,none⟩)∧W.heap.size≤b∧w.heap[b]?=some (.cells #[.int .i64 0,.int .i64 0,.int .i64 0,.int .i64 0,.int .i64 0,.int .i64 0] 182 (0,0))
theorem stays_newD (W:World):Stays (isNewD W):=fun _ _ _ hg ⟨b,h1,h2,h3⟩=>⟨b,h1,h2,(hg.block b (blk_lt h3) (by simp)).trans h3⟩
noncomputable def gt_regionC:Code:=regionIn Tryz.f128.body 10
theorem gt_region (a:Act) (g c:Nat) (n0 n1 n2 n3 n4 n5 n6 Y:Int) (W w:World) (Q:Exit→Act→World→Prop) (hsz:a.tmps.size=96)
  (h4:a.eval (.tmp 4)=.slice (some ⟨g,0,none⟩) 7 c)
  (hcl:∀ w,W.grownBy w none→∀ k z,[n0,n1,n2,n3,n4,n5,n6][k]?=some z→w.cell? ⟨g,0+k,none⟩=some (.int .i64 z))
  (hY:IntKind.i64.wrap (IntKind.i64.wrap (n0*100)+n1)=Y)
  (hw:W.grownBy { w with drawn:=w.drawn+1 } none)
  (hQ:∀ us w' b,us 6=.pointer (some ⟨b,0,none⟩)→W.heap.size≤b→W.grownBy w' none→w'.heap[b]?=some (.cells #[.int .i64 Y,.int .i64 n2,.int .i64 n3,.int .i64 n4,.int .i64 n5,.int .i64 n6] 182 (0,0))→Q .normal (fill a [67,68,69,70,71,72,73,74,75,76,77,78,79,80,81,82,83,84,85,86,87,88,89,90,6] us) w'):gt_regionC.wp Tryz.prog Q a w:=by
 have hI:(Tryz.prog.info? 182).map (·.size)=some 6:=by kernel_rfl
 have hst:StaysAll [isV (.slice (some ⟨g,0,none⟩) 7 c),isV (.pointer (some ⟨g,0+0,none⟩)),isV (.int .i64 n0),isV (.int .i64 (IntKind.i64.wrap (n0*100))),isV (.slice (some ⟨g,0,none⟩) 7 c),isV (.pointer (some ⟨g,0+1,none⟩)),isV (.int .i64 n1),isV (.int .i64 Y),isV (.slice (some ⟨g,0,none⟩) 7 c),isV (.pointer (some ⟨g,0+2,none⟩)),isV (.int .i64 n2),isV (.slice (some ⟨g,0,none⟩) 7 c),isV (.pointer (some ⟨g,0+3,none⟩)),isV (.int .i64 n3),isV (.slice (some ⟨g,0,none⟩) 7 c),isV (.pointer (some ⟨g,0+4,none⟩)),isV (.int .i64 n4),isV (.slice (some ⟨g,0,none⟩) 7 c),isV (.pointer (some ⟨g,0+5,none⟩)),isV (.int .i64 n5),isV (.slice (some ⟨g,0,none⟩) 7 c),isV (.pointer (some ⟨g,0+6,none⟩)),isV (.int .i64 n6),isV (.agg #[.int .i64 Y,.int .i64 n2,.int .i64 n3,.int .i64 n4,.int .i64 n5,.int .i64 n6]),isNewD W]:=⟨stays_V _,stays_V _,stays_V _,stays_V _,stays_V _,stays_V _,stays_V _,stays_V _,stays_V _,stays_V _,stays_V _,stays_V _,stays_V _,stays_V _,stays_V _,stays_V _,stays_V _,stays_V _,stays_V _,stays_V _,stays_V _,stays_V _,stays_V _,stays_V _,stays_newD _,trivial⟩
 conv=>arg 2;whnf
 refine wp_region_flow 25 [67,68,69,70,71,72,73,74,75,76,77,78,79,80,81,82,83,84,85,86,87,88,89,90,6] (fun w'=>W.grownBy w' none) (fun w w'=>w.grownBy w' none) (flF [isV (.slice (some ⟨g,0,none⟩) 7 c),isV (.pointer (some ⟨g,0+0,none⟩)),isV (.int .i64 n0),isV (.int .i64 (IntKind.i64.wrap (n0*100))),isV (.slice (some ⟨g,0,none⟩) 7 c),isV (.pointer (some ⟨g,0+1,none⟩)),isV (.int .i64 n1),isV (.int .i64 Y),isV (.slice (some ⟨g,0,none⟩) 7 c),isV (.pointer (some ⟨g,0+2,none⟩)),isV (.int .i64 n2),isV (.slice (some ⟨g,0,none⟩) 7 c),isV (.pointer (some ⟨g,0+3,none⟩)),isV (.int .i64 n3),isV (.slice (some ⟨g,0,none⟩) 7 c),isV (.pointer (some ⟨g,0+4,none⟩)),isV (.int .i64 n4),isV (.slice (some ⟨g,0,none⟩) 7 c),isV (.pointer (some ⟨g,0+5,none⟩)),isV (.int .i64 n5),isV (.slice (some ⟨g,0,none⟩) 7 c),isV (.pointer (some ⟨g,0+6,none⟩)),isV (.int .i64 n6),isV (.agg #[.int .i64 Y,.int .i64 n2,.int .i64 n3,.int .i64 n4,.int .i64 n5,.int .i64 n6]),isNewD W]) (by kernel_rfl) (by kernel_rfl) (fun _ _ h k=>grown_trans k h) (fun j x w w' hg h=>flF_stays hst j x w w' hg h) hw ?_ ?_
 ·refine ⟨?_,?_,?_,?_,?_,?_,?_,?_,?_,?_,?_,?_,?_,?_,?_,?_,?_,?_,?_,?_,?_,?_,?_,?_,?_,trivial⟩
  ·exact flow_step (fun us w hC hd=>wants_free rfl) (fun us w hC hd=>⟨_,w,move_val rfl ((fill_old (by rfl)).trans h4),grown_refl _ _,rfl⟩)
  ·exact flow_step (fun us w hC hd=>wants_free rfl) (fun us w hC hd=>⟨_,w,idx_val rfl ((fill_tmp (by rfl) (by rw[hsz];decide)).trans (hd 0 (by decide))) rfl (idxI w g 0 7 c 0 (by decide)),grown_refl _ _,rfl⟩)
  ·exact flow_step (fun us w hC hd=>wants_free rfl) (fun us w hC hd=>⟨_,w,loadc_val rfl ((fill_tmp (by rfl) (by rw[hsz];decide)).trans (hd 1 (by decide))) (loadI (hcl w hC 0 n0 rfl)),grown_refl _ _,rfl⟩)
  ·exact flow_step (fun us w hC hd=>wants_free rfl) (fun us w hC hd=>⟨_,w,mulint_val rfl ((fill_tmp (by rfl) (by rw[hsz];decide)).trans (hd 2 (by decide))) rfl,grown_refl _ _,rfl⟩)
  ·exact flow_step (fun us w hC hd=>wants_free rfl) (fun us w hC hd=>⟨_,w,move_val rfl ((fill_old (by rfl)).trans h4),grown_refl _ _,rfl⟩)
  ·exact flow_step (fun us w hC hd=>wants_free rfl) (fun us w hC hd=>⟨_,w,idx_val rfl ((fill_tmp (by rfl) (by rw[hsz];decide)).trans (hd 4 (by decide))) rfl (idxI w g 0 7 c 1 (by decide)),grown_refl _ _,rfl⟩)
  ·exact flow_step (fun us w hC hd=>wants_free rfl) (fun us w hC hd=>⟨_,w,loadc_val rfl ((fill_tmp (by rfl) (by rw[hsz];decide)).trans (hd 5 (by decide))) (loadI (hcl w hC 1 n1 rfl)),grown_refl _ _,rfl⟩)
  ·exact flow_step (fun us w hC hd=>wants_free rfl) (fun us w hC hd=>⟨_,w,(addint_val rfl ((fill_tmp (by rfl) (by rw[hsz];decide)).trans (hd 3 (by decide))) ((fill_tmp (by rfl) (by rw[hsz];decide)).trans (hd 6 (by decide)))).trans (by rw[hY]),grown_refl _ _,rfl⟩)
  ·exact flow_step (fun us w hC hd=>wants_free rfl) (fun us w hC hd=>⟨_,w,move_val rfl ((fill_old (by rfl)).trans h4),grown_refl _ _,rfl⟩)
  ·exact flow_step (fun us w hC hd=>wants_free rfl) (fun us w hC hd=>⟨_,w,idx_val rfl ((fill_tmp (by rfl) (by rw[hsz];decide)).trans (hd 8 (by decide))) rfl (idxI w g 0 7 c 2 (by decide)),grown_refl _ _,rfl⟩)
  ·exact flow_step (fun us w hC hd=>wants_free rfl) (fun us w hC hd=>⟨_,w,loadc_val rfl ((fill_tmp (by rfl) (by rw[hsz];decide)).trans (hd 9 (by decide))) (loadI (hcl w hC 2 n2 rfl)),grown_refl _ _,rfl⟩)
  ·exact flow_step (fun us w hC hd=>wants_free rfl) (fun us w hC hd=>⟨_,w,move_val rfl ((fill_old (by rfl)).trans h4),grown_refl _ _,rfl⟩)
  ·exact flow_step (fun us w hC hd=>wants_free rfl) (fun us w hC hd=>⟨_,w,idx_val rfl ((fill_tmp (by rfl) (by rw[hsz];decide)).trans (hd 11 (by decide))) rfl (idxI w g 0 7 c 3 (by decide)),grown_refl _ _,rfl⟩)
  ·exact flow_step (fun us w hC hd=>wants_free rfl) (fun us w hC hd=>⟨_,w,loadc_val rfl ((fill_tmp (by rfl) (by rw[hsz];decide)).trans (hd 12 (by decide))) (loadI (hcl w hC 3 n3 rfl)),grown_refl _ _,rfl⟩)
  ·exact flow_step (fun us w hC hd=>wants_free rfl) (fun us w hC hd=>⟨_,w,move_val rfl ((fill_old (by rfl)).trans h4),grown_refl _ _,rfl⟩)
  ·exact flow_step (fun us w hC hd=>wants_free rfl) (fun us w hC hd=>⟨_,w,idx_val rfl ((fill_tmp (by rfl) (by rw[hsz];decide)).trans (hd 14 (by decide))) rfl (idxI w g 0 7 c 4 (by decide)),grown_refl _ _,rfl⟩)
  ·exact flow_step (fun us w hC hd=>wants_free rfl) (fun us w hC hd=>⟨_,w,loadc_val rfl ((fill_tmp (by rfl) (by rw[hsz];decide)).trans (hd 15 (by decide))) (loadI (hcl w hC 4 n4 rfl)),grown_refl _ _,rfl⟩)
  ·exact flow_step (fun us w hC hd=>wants_free rfl) (fun us w hC hd=>⟨_,w,move_val rfl ((fill_old (by rfl)).trans h4),grown_refl _ _,rfl⟩)
  ·exact flow_step (fun us w hC hd=>wants_free rfl) (fun us w hC hd=>⟨_,w,idx_val rfl ((fill_tmp (by rfl) (by rw[hsz];decide)).trans (hd 17 (by decide))) rfl (idxI w g 0 7 c 5 (by decide)),grown_refl _ _,rfl⟩)
  ·exact flow_step (fun us w hC hd=>wants_free rfl) (fun us w hC hd=>⟨_,w,loadc_val rfl ((fill_tmp (by rfl) (by rw[hsz];decide)).trans (hd 18 (by decide))) (loadI (hcl w hC 5 n5 rfl)),grown_refl _ _,rfl⟩)
  ·exact flow_step (fun us w hC hd=>wants_free rfl) (fun us w hC hd=>⟨_,w,move_val rfl ((fill_old (by rfl)).trans h4),grown_refl _ _,rfl⟩)
  ·exact flow_step (fun us w hC hd=>wants_free rfl) (fun us w hC hd=>⟨_,w,idx_val rfl ((fill_tmp (by rfl) (by rw[hsz];decide)).trans (hd 20 (by decide))) rfl (idxI w g 0 7 c 6 (by decide)),grown_refl _ _,rfl⟩)
  ·exact flow_step (fun us w hC hd=>wants_free rfl) (fun us w hC hd=>⟨_,w,loadc_val rfl ((fill_tmp (by rfl) (by rw[hsz];decide)).trans (hd 21 (by decide))) (loadI (hcl w hC 6 n6 rfl)),grown_refl _ _,rfl⟩)
  ·exact flow_step (fun us w hC hd=>wants_free rfl) (fun us w hC hd=>⟨_,w,build6_val rfl ((fill_tmp (by rfl) (by rw[hsz];decide)).trans (hd 7 (by decide))) ((fill_tmp (by rfl) (by rw[hsz];decide)).trans (hd 10 (by decide))) ((fill_tmp (by rfl) (by rw[hsz];decide)).trans (hd 13 (by decide))) ((fill_tmp (by rfl) (by rw[hsz];decide)).trans (hd 16 (by decide))) ((fill_tmp (by rfl) (by rw[hsz];decide)).trans (hd 19 (by decide))) ((fill_tmp (by rfl) (by rw[hsz];decide)).trans (hd 22 (by decide))) (buildDt w _ _ _ _ _ _),grown_refl _ _,rfl⟩)
  ·exact flow_step (fun us w hC hd=>wants_free rfl) (fun us w hC hd=>⟨_,_,alloc_valD rfl (allocDt w),World.grownBy_alloc _ _ _,w.heap.size,rfl,hC.size,alloc_at _ _⟩)
 ·intro us w' hC' hF
  have e90:us 90=.agg #[.int .i64 Y,.int .i64 n2,.int .i64 n3,.int .i64 n4,.int .i64 n5,.int .i64 n6]:=hF 23 (by decide)
  obtain ⟨b,e6,p1,p2⟩:isNewD W (us 6) w':=hF 24 (by decide)
  refine wpList_store_row (by rfl) 182 (.tmp 6) (.tmp 90) (by rfl) b #[.int .i64 Y,.int .i64 n2,.int .i64 n3,.int .i64 n4,.int .i64 n5,.int .i64 n6] ((fill_tmp (by rfl) (by rw[hsz];decide)).trans e6) ((fill_tmp (by rfl) (by rw[hsz];decide)).trans e90) _ _ p2 hI rfl (by simp[Value.oneCell']) ?_
  exact hQ us _ b e6 p1 (grown_setRow hC' p1 _) (setRow_heap _ _ _ _ _ _ p2)
theorem rfield_val {P:Program} {a:Act} {o:Oper} {w:World} {t:TypeId} {x:Operand} {k:Nat} {p v:Value} (ho:o.op=.fieldAddr t x k) (hx:a.eval x=p) (h:(Instr.fieldAt t p k).run P w=.ok v w):(execOp a.eval o).run P w=.ok (.value v) w:=by
 simp[execOp,ho,hx,h,Result.andThen]
theorem rNilCk {o:Oper} {a:Act} {x:Operand} (w:World) (p:Addr) (ho:o.op=.nilCheck x) (hx:a.eval x=.pointer (some p)):(execOp a.eval o).run Tryz.prog w=.ok (.value (.pointer (some p))) w:=by
 simp only[execOp,ho,hx]
 simp[go_sem,Result.andThen]
theorem rField1 (m:Nat) (w:World):(Instr.fieldAt 39 (.pointer (some ⟨m,0,none⟩)) 1).run Tryz.prog w=.ok (.pointer (some ⟨m,1,none⟩)) w:=by simp[go_sem]
theorem rLoadI {g o:Nat} {w:World} {x:Int} (h:w.cell? ⟨g,o,none⟩=some (.int .i64 x)):(Instr.loadAt 3 (.pointer (some ⟨g,o,none⟩))).run Tryz.prog w=.ok (.int .i64 x) w:=by simp[go_sem,h]
noncomputable def rw_region33C:Code:=regionIn Tryz.f4.body 33
theorem rw_region33 (a:Act) (b1 b2 gc:Nat) (ga:Option Addr) (E:Nat) (EV:Value) (W w:World) (Q:Exit→Act→World→Prop) (hsz:a.tmps.size=145)
  (h17:a.eval (.tmp 17)=.slice ga 0 gc)
  (h15:a.eval (.tmp 15)=.pointer (some ⟨b1,0,none⟩))
  (h16:a.eval (.tmp 16)=.pointer (some ⟨b2,0,none⟩))
  (hE1:∀ w,W.grownBy w none→Calls Tryz.prog 17 #[.pointer (some ⟨b1,0,none⟩)] w fun e w'=>∃ v,e=.returned v∧w.grownBy w' none∧isV (EV) v w')
  (hN1:∀ w,W.grownBy w none→Calls Tryz.prog 16 #[EV] w fun e w'=>∃ v,e=.returned v∧w.grownBy w' none∧isV (.int .i64 (E:Nat)) v w')
  (hc:∀ w,W.grownBy w none→w.cell? ⟨b2,1,none⟩=some (.int .i64 (E:Nat)))
  (hw:W.grownBy { w with drawn:=w.drawn+1 } none)
  (hQ:∀ us w',W.grownBy w' none→Q .normal ((fill a [124,125,126,127,128,129,130,131,132,133,134,135,136] us).put (some 6) (.bool true)) w'):rw_region33C.wp Tryz.prog Q a w:=by
 have hst:StaysAll [isV (.slice ga 0 gc),isV (.int .i64 ((0:Nat):Int)),isV (.bool true),isV (.bool true),isV (.pointer (some ⟨b1,0,none⟩)),isV (EV),isV (.int .i64 (E:Nat)),isV (.pointer (some ⟨b2,0,none⟩)),isV (.pointer (some ⟨b2,0,none⟩)),isV (.pointer (some ⟨b2,1,none⟩)),isV (.int .i64 (E:Nat)),isV (.bool true),isV (.bool true)]:=⟨stays_V _,stays_V _,stays_V _,stays_V _,stays_V _,stays_V _,stays_V _,stays_V _,stays_V _,stays_V _,stays_V _,stays_V _,stays_V _,trivial⟩
 conv=>arg 2;whnf
 refine wp_region_flow 13 [124,125,126,127,128,129,130,131,132,133,134,135,136] (fun w'=>W.grownBy w' none) (fun w w'=>w.grownBy w' none) (flF [isV (.slice ga 0 gc),isV (.int .i64 ((0:Nat):Int)),isV (.bool true),isV (.bool true),isV (.pointer (some ⟨b1,0,none⟩)),isV (EV),isV (.int .i64 (E:Nat)),isV (.pointer (some ⟨b2,0,none⟩)),isV (.pointer (some ⟨b2,0,none⟩)),isV (.pointer (some ⟨b2,1,none⟩)),isV (.int .i64 (E:Nat)),isV (.bool true),isV (.bool true)]) (by kernel_rfl) (by kernel_rfl) (fun _ _ h k=>grown_trans k h) (fun j x w w' hg h=>flF_stays hst j x w w' hg h) hw ?_ ?_
 ·refine ⟨?_,?_,?_,?_,?_,?_,?_,?_,?_,?_,?_,?_,?_,trivial⟩
  ·exact flow_step (fun us w hC hd=>wants_free rfl) (fun us w hC hd=>⟨_,w,move_val rfl ((fill_old (by rfl)).trans h17),grown_refl _ _,rfl⟩)
  ·exact flow_step (fun us w hC hd=>wants_free rfl) (fun us w hC hd=>⟨_,w,len_val Tryz.underlying46 rfl ((fill_tmp (by rfl) (by rw[hsz];decide)).trans (hd 0 (by decide))),grown_refl _ _,rfl⟩)
  ·exact flow_step (fun us w hC hd=>wants_free rfl) (fun us w hC hd=>⟨_,w,(eqlint_val rfl ((fill_tmp (by rfl) (by rw[hsz];decide)).trans (hd 1 (by decide))) rfl).trans (by rfl),grown_refl _ _,rfl⟩)
  ·exact flow_step (fun us w hC hd=>wants_free rfl) (fun us w hC hd=>⟨_,w,move_val rfl ((fill_tmp (by rfl) (by rw[hsz];decide)).trans (hd 2 (by decide))),grown_refl _ _,rfl⟩)
  ·exact flow_step (fun us w hC hd=>wants_on (d:=127) (b:=true) rfl rfl (by rfl) (by rw[hsz];decide) (hd 3 (by decide))) (fun us w hC hd=>⟨_,w,move_val rfl ((fill_old (by rfl)).trans h15),grown_refl _ _,rfl⟩)
  ·refine flow_call 17 (fun us=>#[us 128]) (fun us w hC hd=>wants_on (d:=127) (b:=true) rfl rfl (by rfl) (by rw[hsz];decide) (hd 3 (by decide))) (fun us w=>by rw[call_enter rfl (fun _ _=>by simp[go_sem]),List.map_toArray,List.map_cons,List.map_nil,fill_tmp (by rfl) (by rw[hsz];decide)]) (fun us w hC' hd=>?_)
   rw[show us 128=.pointer (some ⟨b1,0,none⟩) from hd 4 (by decide)]
   exact hE1 w hC'
  ·refine flow_call 16 (fun us=>#[us 129]) (fun us w hC hd=>wants_on (d:=127) (b:=true) rfl rfl (by rfl) (by rw[hsz];decide) (hd 3 (by decide))) (fun us w=>by rw[call_enter rfl (fun _ _=>by simp[go_sem]),List.map_toArray,List.map_cons,List.map_nil,fill_tmp (by rfl) (by rw[hsz];decide)]) (fun us w hC' hd=>?_)
   rw[show us 129=EV from hd 5 (by decide)]
   exact hN1 w hC'
  ·exact flow_step (fun us w hC hd=>wants_on (d:=127) (b:=true) rfl rfl (by rfl) (by rw[hsz];decide) (hd 3 (by decide))) (fun us w hC hd=>⟨_,w,move_val rfl ((fill_old (by rfl)).trans h16),grown_refl _ _,rfl⟩)
  ·exact flow_step (fun us w hC hd=>wants_on (d:=127) (b:=true) rfl rfl (by rfl) (by rw[hsz];decide) (hd 3 (by decide))) (fun us w hC hd=>⟨_,w,rNilCk w _ rfl ((fill_tmp (by rfl) (by rw[hsz];decide)).trans (hd 7 (by decide))),grown_refl _ _,rfl⟩)
  ·exact flow_step (fun us w hC hd=>wants_on (d:=127) (b:=true) rfl rfl (by rfl) (by rw[hsz];decide) (hd 3 (by decide))) (fun us w hC hd=>⟨_,w,rfield_val rfl ((fill_tmp (by rfl) (by rw[hsz];decide)).trans (hd 8 (by decide))) (rField1 b2 w),grown_refl _ _,rfl⟩)
  ·exact flow_step (fun us w hC hd=>wants_on (d:=127) (b:=true) rfl rfl (by rfl) (by rw[hsz];decide) (hd 3 (by decide))) (fun us w hC hd=>⟨_,w,loadc_val rfl ((fill_tmp (by rfl) (by rw[hsz];decide)).trans (hd 9 (by decide))) (rLoadI (hc w hC)),grown_refl _ _,rfl⟩)
  ·exact flow_step (fun us w hC hd=>wants_on (d:=127) (b:=true) rfl rfl (by rfl) (by rw[hsz];decide) (hd 3 (by decide))) (fun us w hC hd=>⟨_,w,(eqlint_val rfl ((fill_tmp (by rfl) (by rw[hsz];decide)).trans (hd 6 (by decide))) ((fill_tmp (by rfl) (by rw[hsz];decide)).trans (hd 10 (by decide)))).trans (by simp),grown_refl _ _,rfl⟩)
  ·exact flow_step (fun us w hC hd=>wants_free rfl) (fun us w hC hd=>⟨_,w,pick_true rfl ((fill_tmp (by rfl) (by rw[hsz];decide)).trans (hd 3 (by decide))) ((fill_tmp (by rfl) (by rw[hsz];decide)).trans (hd 11 (by decide))),grown_refl _ _,rfl⟩)
 ·intro us w' hC' hd
  exact wpList_last rfl (assign_val rfl ((fill_tmp (by rfl) (by rw[hsz];decide)).trans (hd 12 (by decide)))) (hQ us w' hC')
end Go.Proofs.YtndkifkhdollgaaGreatDoor
