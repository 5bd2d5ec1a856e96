import Derived.Test.YtjjbkpjjmbfdhaaGreatDoorZb01
import Derived.Test.YtjjbkpjjmbfdhaaGreatDoorZb09
import Derived.Test.YtjjbkpjjmbfdhaaGreatDoorZb11
set_option linter.unusedVariables false
set_option linter.unusedSimpArgs false
set_option maxRecDepth 100000
set_option maxHeartbeats 1000000
namespace Go.Proofs.YtjjbkpjjmbfdhaaGreatDoor
open Go.RowKit
def Stays (P:Value→World→Prop):Prop:=∀ x w w',World.grownBy w w' none→P x w→P x w'
def StaysAll:List (Value→World→Prop)→Prop
 |[]=>True
 |P :: r=>Stays P∧StaysAll r
def isV (v:Value):Value→World→Prop:=fun x _=>x=v
def isB (l:List Nat):Value→World→Prop:=fun x w=>Bytes w x l
def isAny:Value→World→Prop:=fun _ _=>True
theorem stays_V (v:Value):Stays (isV v):=fun _ _ _ _ h=>h
theorem stays_B (l:List Nat):Stays (isB l):=fun _ _ _ hg h=>Bytes.grown h hg
def flF (Ps:List (Value→World→Prop)) (j:Nat):Value→World→Prop:=Ps.getD j isAny
theorem flF_stays:∀ {Ps:List (Value→World→Prop)},StaysAll Ps→∀ (j:Nat) (x:Value) (w w':World),World.grownBy w w' none→flF Ps j x w→flF Ps j x w'
 |[],_,j,x,w,w',_,_=>by simp[flF,isAny]
 |P :: r,h,0,x,w,w',hg,hx=>h.1 x w w' hg hx
 |P :: r,h,j+1,x,w,w',hg,hx=>flF_stays h.2 j x w w' hg hx
section
variable {P:Program} {a:Act} {o:Oper} {w:World}
theorem conv_val {s d:TypeId} {x:Operand} {p v:Value} (ho:o.op=.convert s d x) (hx:a.eval x=p) (h:(convert s d p).run P w=.ok v w):(execOp a.eval o).run P w=.ok (.value v) w:=by
 simp[execOp,ho,hx,h,Result.andThen]
theorem pick_false {c x y:Operand} {v:Value} (ho:o.op=.pick c x y) (hc:a.eval c=.bool false) (hy:a.eval y=v):(execOp a.eval o).run P w=.ok (.value v) w:=by
 simp[execOp,ho,hc,hy,Sem.run_pure,asBool]
theorem not_val {t:TypeId} {x:Operand} {b:Bool} (ho:o.op=.unOp .not t x) (hx:a.eval x=.bool b):(execOp a.eval o).run P w=.ok (.value (.bool (!b))) w:=by
 simp only[execOp,ho,hx]
 simp[go_sem]
theorem quoint_val {t r:TypeId} {x y:Operand} {n m:Int} (ho:o.op=.binOp .quo t x y r) (hx:a.eval x=.int .i64 n) (hy:a.eval y=.int .i64 m) (hm:m≠0):(execOp a.eval o).run P w=.ok (.value (.int .i64 (IntKind.i64.wrap (n.tdiv m)))) w:=by
 simp only[execOp,ho,hx,hy]
 simp[go_sem,eqGuard,Sem.run_pure,binOp,hm]
theorem remint_val {t r:TypeId} {x y:Operand} {n m:Int} (ho:o.op=.binOp .rem t x y r) (hx:a.eval x=.int .i64 n) (hy:a.eval y=.int .i64 m) (hm:m≠0):(execOp a.eval o).run P w=.ok (.value (.int .i64 (n.tmod m))) w:=by
 simp only[execOp,ho,hx,hy]
 simp[go_sem,eqGuard,Sem.run_pure,binOp,hm]
theorem addint_val {t r:TypeId} {x y:Operand} {k:IntKind} {n m:Int} (ho:o.op=.binOp .add t x y r) (hx:a.eval x=.int k n) (hy:a.eval y=.int k m):(execOp a.eval o).run P w=.ok (.value (.int k (k.wrap (n+m)))) w:=by
 simp only[execOp,ho,hx,hy]
 simp[go_sem,eqGuard,Sem.run_pure,binOp]
theorem addstr_val {t r:TypeId} {x y:Operand} {n m:ByteArray} (ho:o.op=.binOp .add t x y r) (hx:a.eval x=.string n) (hy:a.eval y=.string m) (hl:n.size+m.size≤1000):(execOp a.eval o).run P w=.ok (.value (.string (n++m))) w:=by
 simp only[execOp,ho,hx,hy]
 simp[go_sem,eqGuard,Sem.run_pure,binOp,Op.stringOp]
 omega
end
section
variable {a:Act} {us:Nat→Value} {D:List Nat} {d:Nat}
theorem fill_nil:fill a [] us=a:=by
 obtain ⟨⟨l⟩,e⟩:=a
 unfold fill
 congr 1
 congr 1
 refine List.ext_getElem (by simp) fun i h1 h2=>?_
 simp
theorem fill_cons:fill a (d :: D) us=(fill a D us).put (some d) (us d):=by
 obtain ⟨⟨l⟩,e⟩:=a
 show (⟨_,e⟩:Act)=⟨((l.mapIdx fun k x=>if D.contains k then us k else x).toArray).setIfInBounds d (us d),e⟩
 congr 1
 rw[List.setIfInBounds_toArray]
 congr 1
 refine List.ext_getElem (by simp only[List.length_set,List.length_mapIdx]) fun i h1 h2=>?_
 simp only[List.getElem_set,List.getElem_mapIdx,List.contains_cons]
 by_cases hi:d=i
 ·subst hi;simp
 ·rw[if_neg hi]
  have:(i==d)=false:=by simp;exact fun h=>hi h.symm
  rw[this,Bool.false_or]
end
def regionsIn:Code→List Code
 |.seq a b=>regionsIn a++regionsIn b
 |.cond _ a b=>regionsIn a++regionsIn b
 |.block _ c=>regionsIn c
 |.loop c=>regionsIn c
 |.scope c=>regionsIn c
 |.region i o d=>[.region i o d]
 |_=>[]
def regionIn (c:Option Code) (k:Nat):Code:=(((c.map regionsIn).getD []).find? fun r=>match r with | .region i _ _=>i==k|_=>false).getD .skip
section
variable {P:Program} {ops:Array Oper} {md:Region.Mode} {C:World→Prop} {S:World→World→Prop} {F:Nat→Value→World→Prop} {a0:Act} {D:List Nat} {j:Nat} {o:Oper}
theorem wants_not {us:Nat→Value} {k d:Nat} {b:Bool} (h:o.guard=some (k,b)) (hk:(ops[k]?).bind (·.dst)=some d) (hd:D.contains d=true) (hl:d<a0.tmps.size) (hu:us d=.bool (!b)):¬ Wants ops o a0 D us:=by
 unfold Wants Region.wanted
 rw[h]
 simp[yielded,hk,fill_at hd hl,hu]
theorem flow_skip (hw:∀ us w,C w→(∀ k,k∈depsOf md o→F k (us (dstOf ops k)) w)→¬ Wants ops o a0 D us)
  (hS:∀ w,S w w) (hF:∀ v w,F j v w):FlowAt P md ops C S F a0 D j o:=by
 intro us w hC hd' Q hQ
 unfold wpList
 rw[if_neg (show ¬ Region.wanted o (yielded ops (fill a0 D us).tmps)=true from hw us w hC hd')]
 exact hQ undef w (hS w) (hF _ _)
end
section
variable {P:Program} {a:Act} {o:Oper} {w:World}
theorem mulint_val {t r:TypeId} {x y:Operand} {k:IntKind} {n m:Int} (ho:o.op=.binOp .mul t x y r) (hx:a.eval x=.int k n) (hy:a.eval y=.int k m):(execOp a.eval o).run P w=.ok (.value (.int k (k.wrap (n*m)))) w:=by
 simp only[execOp,ho,hx,hy]
 simp[go_sem,eqGuard,Sem.run_pure,binOp]
theorem loadc_val {t:TypeId} {x:Operand} {p v:Value} (ho:o.op=.load t x) (hx:a.eval x=p) (h:(Instr.loadAt t p).run P w=.ok v w):(execOp a.eval o).run P w=.ok (.value v) w:=by
 simp[execOp,ho,hx,h,Result.andThen]
theorem idx_val {t:TypeId} {x y:Operand} {u v p:Value} (ho:o.op=.indexAddr t x y) (hx:a.eval x=u) (hy:a.eval y=v) (h:(Instr.indexAt t u v).run P w=.ok p w):(execOp a.eval o).run P w=.ok (.value p) w:=by
 simp[execOp,ho,hx,hy,h,Result.andThen]
end
theorem eqlnil_val {P:Program} {a:Act} {o:Oper} {w:World} {t r:TypeId} {x:Operand} (ho:o.op=.binOp .eql t x (.const .nilIface) r) (hx:a.eval x=.nilIface) (h:∀ w,(do eqGuard .eql t x (.const .nilIface) .nilIface .nilIface;binOp .eql t .nilIface .nilIface:Sem Value).run P w=.ok (.bool true) w):(execOp a.eval o).run P w=.ok (.value (.bool true)) w:=by
 have hc:a.eval (.const .nilIface)=.nilIface:=rfl
 have h':=h w
 simp only[execOp,ho,hx,hc]
 rw[Sem.run_bind,h']
 simp[Result.andThen,Sem.run_pure]
theorem nilEq (x:Operand) (w:World):(do eqGuard .eql 29 x (.const .nilIface) .nilIface .nilIface;binOp .eql 29 .nilIface .nilIface:Sem Value).run Tryz.prog w=.ok (.bool true) w:=by simp[go_sem]
theorem idxI (w:World) (sb so n c:Nat) (i:Nat) (h:i<n):(Instr.indexAt 41 (.slice (some ⟨sb,so,none⟩) n c) (.int .i64 (i:Int))).run Tryz.prog w=.ok (.pointer (some ⟨sb,so+i,none⟩)) w:=by
 have h1:(0:Int)≤(i:Int)∧(i:Int)<(n:Int):=⟨by omega,by omega⟩
 simp[go_sem,h1]
theorem loadI {w:World} {ad:Addr} {z:Int} (h:w.cell? ad=some (.int .i64 z)):(Instr.loadAt 3 (.pointer (some ad))).run Tryz.prog w=.ok (.int .i64 z) w:=by simp[go_sem,h]
noncomputable def rs_regionC:Code:=regionIn Tryz.f183.body 3
theorem rs_region (a:Act) (u:Nat) (T1 T2:ByteArray) (W w:World) (Q:Exit→Act→World→Prop) (hsz:a.tmps.size=20)
  (h0:a.eval (.tmp 0)=.int .i64 (u:Int))
  (hS:∀ w,W.grownBy w none→Calls Tryz.prog 183 #[.int .i64 ((u/10:Nat):Int)] w fun e w'=>∃ v,e=.returned v∧w.grownBy w' none∧isV (.string T1) v w')
  (hCv:∀ w,(convert 3 5 (.int .i64 ((48+u%10:Nat):Int))).run Tryz.prog w=.ok (.int .u8 ((48+u%10:Nat):Int)) w)
  (hBd:∀ w,(Instr.buildSlice 27 1 #[(0,.int .u8 ((48+u%10:Nat):Int))]).run Tryz.prog w=.ok (.slice (some ⟨w.heap.size,0,none⟩) 1 1) (w.alloc (.cells #[.int .u8 ((48+u%10:Nat):Int)] 5)))
  (hBl:48+u%10<256)
  (hSu:∀ w x,Bytes w x [48+u%10]→(convert 27 9 x).run Tryz.prog w=.ok (.string T2) w)
  (hu1:IntKind.i64.wrap ((u:Int).tdiv 10)=((u/10:Nat):Int))
  (hu2:(u:Int).tmod 10=((u%10:Nat):Int))
  (hu3:IntKind.i64.wrap (48+((u%10:Nat):Int))=((48+u%10:Nat):Int))
  (hlen:T1.size+T2.size≤1000)
  (hw:W.grownBy { w with drawn:=w.drawn+1 } none)
  (hQ:∀ us w',W.grownBy w' none→Q .normal ((fill a [10,11,12,13,14,15,16,17,18,19] us).put (some 2) (.string (T1++T2))) w'):rs_regionC.wp Tryz.prog Q a w:=by
 have hst:StaysAll [isV (.int .i64 (u:Int)),isV (.int .i64 ((u/10:Nat):Int)),isV (.string T1),isV (.int .i64 (u:Int)),isV (.int .i64 ((u%10:Nat):Int)),isV (.int .i64 ((48+u%10:Nat):Int)),isV (.int .u8 ((48+u%10:Nat):Int)),isB [48+u%10],isV (.string T2),isV (.string (T1++T2))]:=⟨stays_V _,stays_V _,stays_V _,stays_V _,stays_V _,stays_V _,stays_V _,stays_B _,stays_V _,stays_V _,trivial⟩
 conv=>arg 2;whnf
 refine wp_region_flow 10 [10,11,12,13,14,15,16,17,18,19] (fun w'=>W.grownBy w' none) (fun w w'=>w.grownBy w' none) (flF [isV (.int .i64 (u:Int)),isV (.int .i64 ((u/10:Nat):Int)),isV (.string T1),isV (.int .i64 (u:Int)),isV (.int .i64 ((u%10:Nat):Int)),isV (.int .i64 ((48+u%10:Nat):Int)),isV (.int .u8 ((48+u%10:Nat):Int)),isB [48+u%10],isV (.string T2),isV (.string (T1++T2))]) (by kernel_rfl) (by kernel_rfl) (fun _ _ h k=>grown_trans k h) (fun j x w w' hg h=>flF_stays hst j x w w' hg h) hw ?_ ?_
 ·refine ⟨?_,?_,?_,?_,?_,?_,?_,?_,?_,?_,trivial⟩
  ·exact flow_step (fun us w hC hd=>wants_free rfl) (fun us w hC hd=>⟨_,w,move_val rfl ((fill_old (by rfl)).trans h0),grown_refl _ _,rfl⟩)
  ·exact flow_step (fun us w hC hd=>wants_free rfl) (fun us w hC hd=>⟨_,w,(quoint_val rfl ((fill_tmp (by rfl) (by rw[hsz];decide)).trans (hd 0 (by decide))) rfl (by decide)).trans (by rw[hu1]),grown_refl _ _,rfl⟩)
  ·refine flow_call 183 (fun us=>#[us 11]) (fun us w hC hd=>wants_free rfl) (fun us w=>by rw[call_enter rfl (fun _ _=>by simp[go_sem]),List.map_toArray,List.map_cons,List.map_nil,fill_tmp (by rfl) (by rw[hsz];decide)]) (fun us w hC' hd=>?_)
   rw[show us 11=.int .i64 ((u/10:Nat):Int) from hd 1 (by decide)]
   exact hS w hC'
  ·exact flow_step (fun us w hC hd=>wants_free rfl) (fun us w hC hd=>⟨_,w,move_val rfl ((fill_old (by rfl)).trans h0),grown_refl _ _,rfl⟩)
  ·exact flow_step (fun us w hC hd=>wants_free rfl) (fun us w hC hd=>⟨_,w,(remint_val rfl ((fill_tmp (by rfl) (by rw[hsz];decide)).trans (hd 3 (by decide))) rfl (by decide)).trans (by rw[hu2]),grown_refl _ _,rfl⟩)
  ·exact flow_step (fun us w hC hd=>wants_free rfl) (fun us w hC hd=>⟨_,w,(addint_val rfl rfl ((fill_tmp (by rfl) (by rw[hsz];decide)).trans (hd 4 (by decide)))).trans (by rw[hu3]),grown_refl _ _,rfl⟩)
  ·exact flow_step (fun us w hC hd=>wants_free rfl) (fun us w hC hd=>⟨_,w,conv_val rfl ((fill_tmp (by rfl) (by rw[hsz];decide)).trans (hd 5 (by decide))) (hCv w),grown_refl _ _,rfl⟩)
  ·exact flow_step (fun us w hC hd=>wants_free rfl) (fun us w hC hd=>⟨_,_,build1_val rfl ((fill_tmp (by rfl) (by rw[hsz];decide)).trans (hd 6 (by decide))) (hBd w),World.grownBy_alloc _ _ _,Bytes.lit (l:=[48+u%10]) (alloc_at w _) (by simpa using hBl)⟩)
  ·exact flow_step (fun us w hC hd=>wants_free rfl) (fun us w hC hd=>⟨_,w,conv_val rfl (fill_tmp (by rfl) (by rw[hsz];decide)) (hSu w _ (hd 7 (by decide))),grown_refl _ _,rfl⟩)
  ·exact flow_step (fun us w hC hd=>wants_free rfl) (fun us w hC hd=>⟨_,w,addstr_val rfl ((fill_tmp (by rfl) (by rw[hsz];decide)).trans (hd 2 (by decide))) ((fill_tmp (by rfl) (by rw[hsz];decide)).trans (hd 8 (by decide))) hlen,grown_refl _ _,rfl⟩)
 ·intro us w' hC' hd
  exact wpList_last rfl (assign_val rfl ((fill_tmp (by rfl) (by rw[hsz];decide)).trans (hd 9 (by decide)))) (hQ us w' hC')
def isIf (g b:Bool) (v:Value):Value→World→Prop:=fun x _=>g=b→x=v
theorem stays_If (g b:Bool) (v:Value):Stays (isIf g b v):=fun _ _ _ _ h=>h
section
variable {P:Program} {a:Act} {o:Oper} {w:World}
theorem fieldA_val {t:TypeId} {x:Operand} {k:Nat} {p v:Value} (ho:o.op=.fieldAddr t x k) (hx:a.eval x=p) (h:(Instr.fieldAt t p k).run P w=.ok v w):(execOp a.eval o).run P w=.ok (.value v) w:=by
 simp[execOp,ho,hx,h,Result.andThen]
end
section
variable {P:Program} {a:Act} {o:Oper} {w:World}
theorem neqstr2_val {t r:TypeId} {x y:Operand} {s s':ByteArray} (ho:o.op=.binOp .neq t x y r) (hx:a.eval x=.string s) (hy:a.eval y=.string s'):(execOp a.eval o).run P w=.ok (.value (.bool (!(s.toList==s'.toList)))) w:=by
 simp only[execOp,ho,hx,hy]
 simp[eqGuard,Sem.run_pure,binOp,Op.stringOp,bne]
theorem slice2_val {t:TypeId} {x lo hi:Operand} {p u v z:Value} (ho:o.op=.slice t x (some lo) (some hi) none) (hx:a.eval x=p) (hl:a.eval lo=u) (hh:a.eval hi=v) (h:(Instr.sliceAt t p (some u) (some v) none).run P w=.ok z w) :
  (execOp a.eval o).run P w=.ok (.value z) w:=by
 simp only[execOp,ho,hx,hl,hh,Option.map_some,Option.map_none]
 simp[h,Sem.run_bind,Result.andThen]
end
noncomputable def nx_regionC:Code:=regionIn Tryz.f125.body 20
theorem nx_region (a:Act) (v u:Value) (n m:Int) (S S2:ByteArray) (B:List Nat) (W w:World) (Q:Exit→Act→World→Prop) (hsz:a.tmps.size=81)
  (h0:a.eval (.tmp 0)=v)
  (h6:a.eval (.tmp 6)=.int .i64 n)
  (h7:a.eval (.tmp 7)=.int .i64 m)
  (hF:∀ w,W.grownBy w none→Calls Tryz.prog 161 #[.int .i64 n] w fun e w'=>∃ v,e=.returned v∧w.grownBy w' none∧isB B v w')
  (hSa:∀ w,W.grownBy w none→(convert 27 9 u).run Tryz.prog w=.ok (.string S2) w)
  (hSu:∀ w x,Bytes w x B→(convert 27 9 x).run Tryz.prog w=.ok (.string S) w)
  (hSl:∀ w,(Instr.sliceAt 27 v (some (.int .i64 1)) (some (.int .i64 m)) none).run Tryz.prog w=.ok u w)
  (hw:W.grownBy { w with drawn:=w.drawn+1 } none)
  (hQ:∀ us w',W.grownBy w' none→Q .normal ((fill a [57,58,59,60,61,62,63] us).put (some 64) (.bool (!(S.toList==S2.toList)))) w'):nx_regionC.wp Tryz.prog Q a w:=by
 have hst:StaysAll [isV (.int .i64 n),isB B,isV (.string S),isV (v),isV (.int .i64 m),isV (u),isV (.string S2)]:=⟨stays_V _,stays_B _,stays_V _,stays_V _,stays_V _,stays_V _,stays_V _,trivial⟩
 conv=>arg 2;whnf
 refine wp_region_flow 7 [57,58,59,60,61,62,63] (fun w'=>W.grownBy w' none) (fun w w'=>w.grownBy w' none) (flF [isV (.int .i64 n),isB B,isV (.string S),isV (v),isV (.int .i64 m),isV (u),isV (.string S2)]) (by kernel_rfl) (by kernel_rfl) (fun _ _ h k=>grown_trans k h) (fun j x w w' hg h=>flF_stays hst j x w w' hg h) hw ?_ ?_
 ·refine ⟨?_,?_,?_,?_,?_,?_,?_,trivial⟩
  ·exact flow_step (fun us w hC hd=>wants_free rfl) (fun us w hC hd=>⟨_,w,move_val rfl ((fill_old (by rfl)).trans h6),grown_refl _ _,rfl⟩)
  ·refine flow_call 161 (fun us=>#[us 57]) (fun us w hC hd=>wants_free rfl) (fun us w=>by rw[call_enter rfl (fun _ _=>by simp[go_sem]),List.map_toArray,List.map_cons,List.map_nil,fill_tmp (by rfl) (by rw[hsz];decide)]) (fun us w hC' hd=>?_)
   rw[show us 57=.int .i64 n from hd 0 (by decide)]
   exact hF w hC'
  ·exact flow_step (fun us w hC hd=>wants_free rfl) (fun us w hC hd=>⟨_,w,conv_val rfl (fill_tmp (by rfl) (by rw[hsz];decide)) (hSu w _ (hd 1 (by decide))),grown_refl _ _,rfl⟩)
  ·exact flow_step (fun us w hC hd=>wants_free rfl) (fun us w hC hd=>⟨_,w,move_val rfl ((fill_old (by rfl)).trans h0),grown_refl _ _,rfl⟩)
  ·exact flow_step (fun us w hC hd=>wants_free rfl) (fun us w hC hd=>⟨_,w,move_val rfl ((fill_old (by rfl)).trans h7),grown_refl _ _,rfl⟩)
  ·exact flow_step (fun us w hC hd=>wants_free rfl) (fun us w hC hd=>⟨_,w,slice2_val rfl ((fill_tmp (by rfl) (by rw[hsz];decide)).trans (hd 3 (by decide))) rfl ((fill_tmp (by rfl) (by rw[hsz];decide)).trans (hd 4 (by decide))) (hSl w),grown_refl _ _,rfl⟩)
  ·exact flow_step (fun us w hC hd=>wants_free rfl) (fun us w hC hd=>⟨_,w,conv_val rfl ((fill_tmp (by rfl) (by rw[hsz];decide)).trans (hd 5 (by decide))) (hSa w hC),grown_refl _ _,rfl⟩)
 ·intro us w' hC' hd
  exact wpList_last rfl (neqstr2_val rfl ((fill_tmp (by rfl) (by rw[hsz];decide)).trans (hd 2 (by decide))) ((fill_tmp (by rfl) (by rw[hsz];decide)).trans (hd 6 (by decide)))) (hQ us w' hC')
abbrev dV (d:Cal.DI):Value:=.agg #[.int .i64 d.Y,.int .i64 d.M,.int .i64 d.D,.int .i64 d.h,.int .i64 d.mi,.int .i64 d.s]
def dCells (d:Cal.DI):List Int:=[d.Y,d.M,d.D,d.h,d.mi,d.s]
theorem dCell {w W:World} {b:Nat} {t:TypeId} {fr:Nat×Nat} {d:Cal.DI} (h:w.heap[b]?=some (.cells #[.int .i64 d.Y,.int .i64 d.M,.int .i64 d.D,.int .i64 d.h,.int .i64 d.mi,.int .i64 d.s] t fr)) (hg:w.grownBy W none) :
  ∀ k z,(dCells d)[k]?=some z→W.cell? ⟨b,k,none⟩=some (.int .i64 z):=fun k z hz=>by
 have h2:W.heap[b]?=_:=(hg.block b (blk_lt h) (by simp)).trans h
 refine cell_blk h2 k ?_
 match k,hz with
 |0,hz=>obtain rfl:=Option.some.inj hz;rfl
 |1,hz=>obtain rfl:=Option.some.inj hz;rfl
 |2,hz=>obtain rfl:=Option.some.inj hz;rfl
 |3,hz=>obtain rfl:=Option.some.inj hz;rfl
 |4,hz=>obtain rfl:=Option.some.inj hz;rfl
 |5,hz=>obtain rfl:=Option.some.inj hz;rfl
 |n+6,hz=>cases hz
theorem ms_le (y m:Nat):Cal.ms y m≤31*m:=by
 induction m with
 |zero=>exact Nat.le_refl _
 |succ m ih =>
  rw[Cal.ms]
  have:Cal.days y (m+1)≤31:=by rw[←Cal.daysI_nat];exact Cal.daysI_le _ _
  omega
theorem fieldc_val {P:Program} {a:Act} {o:Oper} {w:World} {t:TypeId} {x:Operand} {k:Nat} {p v:Value} (ho:o.op=.fieldAddr t x k) (hx:a.eval x=p) (h:(Instr.fieldAt t p k).run P w=.ok v w):(execOp a.eval o).run P w=.ok (.value v) w:=by
 simp[execOp,ho,hx,h,Result.andThen]
theorem convc_val {P:Program} {a:Act} {o:Oper} {w w':World} {s d:TypeId} {x:Operand} {p v:Value} (ho:o.op=.convert s d x) (hx:a.eval x=p) (h:(convert s d p).run P w=.ok v w'):(execOp a.eval o).run P w=.ok (.value v) w':=by
 simp[execOp,ho,hx,h,Result.andThen]
def isBw (l:List Nat):Value→World→Prop:=fun x w=>Bytes w x l∧Whole0 x
theorem stays_isBw (l:List Nat):Stays (isBw l):=fun _ _ _ hg h=>⟨h.1.grown hg,h.2⟩
theorem conv_bw (w:World) (e:TypeId) (s:ByteArray):isBw (strL s) (.slice (some ⟨w.heap.size,0,none⟩) s.size (grownCap w s.size 0 e)) (Lib.bytesWorld w e s):=by
 refine ⟨⟨strL_lt s,some ⟨w.heap.size,0,none⟩,w.heap.size,0,_,by rw[strL_len],by rw[strL_len];exact grownCap_ge _ _ _ _,fun _=>⟨rfl,by rw[Lib.bytesWorld_size];omega⟩,fun j hj=>?_⟩,Whole0.some _ _ _⟩
 rw[Nat.zero_add,Lib.bytesWorld_cell w e s j (by rw[←strL_len];exact hj)]
 congr 3
 simp[strL]
 cases s.data[j]? <;> rfl
noncomputable def bo_regionC:Code:=regionIn Tryz.f100.body 13
theorem bo_region (a:Act) (g:Nat) (S:ByteArray) (n:Int) (k:Nat) (W w:World) (Q:Exit→Act→World→Prop) (hsz:a.tmps.size=77)
  (h1:a.eval (.tmp 1)=.pointer (some ⟨g,0,none⟩))
  (hF4:∀ w,(Instr.fieldAt 86 (.pointer (some ⟨g,0,none⟩)) 4).run Tryz.prog w=.ok (.pointer (some ⟨g,4,none⟩)) w)
  (hF1:∀ w,(Instr.fieldAt 86 (.pointer (some ⟨g,0,none⟩)) 1).run Tryz.prog w=.ok (.pointer (some ⟨g,1,none⟩)) w)
  (hL4:∀ w,W.grownBy w none→(Instr.loadAt 9 (.pointer (some ⟨g,4,none⟩))).run Tryz.prog w=.ok (.string S) w)
  (hL1:∀ w,W.grownBy w none→(Instr.loadAt 3 (.pointer (some ⟨g,1,none⟩))).run Tryz.prog w=.ok (.int .i64 n) w)
  (hA:∀ w,Calls Tryz.prog 128 #[.string S,.int .i64 n] w fun e w'=>e=.returned (.int .i64 (k:Int))∧w'=w)
  (hw:W.grownBy { w with drawn:=w.drawn+1 } none)
  (hQ:∀ us w',W.grownBy w' none→(isV (.int .i64 12)) (us 2) w'→(isBw (strL S)) (us 3) w'→Q .normal ((fill a [31,32,33,34,35,36,37,38,2,3] us).put (some 4) (.int .i64 (k:Int))) w'):bo_regionC.wp Tryz.prog Q a w:=by
 have hst:StaysAll [isV (.pointer (some ⟨g,4,none⟩)),isV (.string S),isBw (strL S),isV (.pointer (some ⟨g,4,none⟩)),isV (.string S),isV (.pointer (some ⟨g,1,none⟩)),isV (.int .i64 n),isV (.int .i64 (k:Int)),isV (.int .i64 12),isBw (strL S)]:=⟨stays_V _,stays_V _,stays_isBw _,stays_V _,stays_V _,stays_V _,stays_V _,stays_V _,stays_V _,stays_isBw _,trivial⟩
 conv=>arg 2;whnf
 refine wp_region_flow 10 [31,32,33,34,35,36,37,38,2,3] (fun w'=>W.grownBy w' none) (fun w w'=>w.grownBy w' none) (flF [isV (.pointer (some ⟨g,4,none⟩)),isV (.string S),isBw (strL S),isV (.pointer (some ⟨g,4,none⟩)),isV (.string S),isV (.pointer (some ⟨g,1,none⟩)),isV (.int .i64 n),isV (.int .i64 (k:Int)),isV (.int .i64 12),isBw (strL S)]) (by kernel_rfl) (by kernel_rfl) (fun _ _ h k=>grown_trans k h) (fun j x w w' hg h=>flF_stays hst j x w w' hg h) hw ?_ ?_
 ·refine ⟨?_,?_,?_,?_,?_,?_,?_,?_,?_,?_,trivial⟩
  ·exact flow_step (fun us w hC hd=>wants_free rfl) (fun us w hC hd=>⟨_,w,fieldc_val rfl ((fill_old (by rfl)).trans h1) (hF4 w),grown_refl _ _,rfl⟩)
  ·exact flow_step (fun us w hC hd=>wants_free rfl) (fun us w hC hd=>⟨_,w,loadc_val rfl ((fill_tmp (by rfl) (by rw[hsz];decide)).trans (hd 0 (by decide))) (hL4 w hC),grown_refl _ _,rfl⟩)
  ·exact flow_step (fun us w hC hd=>wants_free rfl) (fun us w hC hd=>⟨_,_,convc_val rfl ((fill_tmp (by rfl) (by rw[hsz];decide)).trans (hd 1 (by decide))) (Lib.run_convert_string_bytes w _ _ _ S Tryz.underlying9 Tryz.underlying27 Tryz.underlying5),grown_bytesW w _ S,conv_bw w _ S⟩)
  ·exact flow_step (fun us w hC hd=>wants_free rfl) (fun us w hC hd=>⟨_,w,fieldc_val rfl ((fill_old (by rfl)).trans h1) (hF4 w),grown_refl _ _,rfl⟩)
  ·exact flow_step (fun us w hC hd=>wants_free rfl) (fun us w hC hd=>⟨_,w,loadc_val rfl ((fill_tmp (by rfl) (by rw[hsz];decide)).trans (hd 3 (by decide))) (hL4 w hC),grown_refl _ _,rfl⟩)
  ·exact flow_step (fun us w hC hd=>wants_free rfl) (fun us w hC hd=>⟨_,w,fieldc_val rfl ((fill_old (by rfl)).trans h1) (hF1 w),grown_refl _ _,rfl⟩)
  ·exact flow_step (fun us w hC hd=>wants_free rfl) (fun us w hC hd=>⟨_,w,loadc_val rfl ((fill_tmp (by rfl) (by rw[hsz];decide)).trans (hd 5 (by decide))) (hL1 w hC),grown_refl _ _,rfl⟩)
  ·refine flow_call 128 (fun us=>#[us 35,us 37]) (fun us w hC hd=>wants_free rfl) (fun us w=>by rw[call_enter rfl (fun _ _=>by simp[go_sem]),List.map_toArray,List.map_cons,List.map_cons,List.map_nil,fill_tmp (by rfl) (by rw[hsz];decide),fill_tmp (by rfl) (by rw[hsz];decide)]) (fun us w hC' hd=>?_)
   rw[show us 35=.string S from hd 4 (by decide)]
   rw[show us 37=.int .i64 n from hd 6 (by decide)]
   exact (hA w).mono (by rintro e w' ⟨rfl,h⟩;rw[h];exact ⟨_,rfl,grown_refl _ _,rfl⟩)
  ·exact flow_step (fun us w hC hd=>wants_free rfl) (fun us w hC hd=>⟨_,w,assign_val rfl rfl,grown_refl _ _,rfl⟩)
  ·exact flow_step (fun us w hC hd=>wants_free rfl) (fun us w hC hd=>⟨_,w,assign_val rfl (fill_tmp (by rfl) (by rw[hsz];decide)),grown_refl _ _,hd 2 (by decide)⟩)
 ·intro us w' hC' hd
  exact wpList_last rfl (assign_val rfl ((fill_tmp (by rfl) (by rw[hsz];decide)).trans (hd 7 (by decide)))) (hQ us w' hC' (hd 8 (by decide)) (hd 9 (by decide)))
end Go.Proofs.YtjjbkpjjmbfdhaaGreatDoor
