import Derived.Test.YtijkaknggdaajaaGreatDoorZr03
import Derived.Test.YtijkaknggdaajaaGreatDoorZr13
import Derived.Test.YtijkaknggdaajaaGreatDoorZr15
set_option linter.unusedVariables false
set_option linter.unusedSimpArgs false
set_option maxRecDepth 100000
set_option maxHeartbeats 1000000
namespace Go.Proofs.YtijkaknggdaajaaGreatDoor
open Go.RowKit
def Stays (P:Value→World→Prop):Prop:=∀ x w w',World.grownBy w w' none→P x w→P x w'
def StaysAll:List (Value→World→Prop)→Prop
 |[]=>True
 |P :: r=>Stays P∧StaysAll r
def isV (v:Value):Value→World→Prop:=fun x _=>x=v
def isB (l:List Nat):Value→World→Prop:=fun x w=>Bytes w x l
def isAny:Value→World→Prop:=fun _ _=>True
theorem stays_V (v:Value):Stays (isV v):=fun _ _ _ _ h=>h
theorem stays_B (l:List Nat):Stays (isB l):=fun _ _ _ hg h=>Bytes.grown h hg
theorem stays_any:Stays isAny:=fun _ _ _ _ h=>h
def flF (Ps:List (Value→World→Prop)) (j:Nat):Value→World→Prop:=Ps.getD j isAny
theorem flF_stays:∀ {Ps:List (Value→World→Prop)},StaysAll Ps→∀ (j:Nat) (x:Value) (w w':World),World.grownBy w w' none→flF Ps j x w→flF Ps j x w'
 |[],_,j,x,w,w',_,_=>by simp[flF,isAny]
 |P :: r,h,0,x,w,w',hg,hx=>h.1 x w w' hg hx
 |P :: r,h,j+1,x,w,w',hg,hx=>flF_stays h.2 j x w w' hg hx
section
variable {P:Program} {a:Act} {o:Oper} {w:World}
theorem conv_val {s d:TypeId} {x:Operand} {p v:Value} (ho:o.op=.convert s d x) (hx:a.eval x=p) (h:(convert s d p).run P w=.ok v w):(execOp a.eval o).run P w=.ok (.value v) w:=by
 simp[execOp,ho,hx,h,Result.andThen]
theorem pick_false {c x y:Operand} {v:Value} (ho:o.op=.pick c x y) (hc:a.eval c=.bool false) (hy:a.eval y=v):(execOp a.eval o).run P w=.ok (.value v) w:=by
 simp[execOp,ho,hc,hy,Sem.run_pure,asBool]
theorem neqint_val {t r:TypeId} {x y:Operand} {k:IntKind} {s:Int} (ho:o.op=.binOp .neq t x y r) (hx:a.eval x=.int k s) (hy:a.eval y=.int k s):(execOp a.eval o).run P w=.ok (.value (.bool false)) w:=by
 simp only[execOp,ho,hx,hy]
 simp[go_sem,eqGuard,Sem.run_pure,binOp]
theorem not_val {t:TypeId} {x:Operand} {b:Bool} (ho:o.op=.unOp .not t x) (hx:a.eval x=.bool b):(execOp a.eval o).run P w=.ok (.value (.bool (!b))) w:=by
 simp only[execOp,ho,hx]
 simp[go_sem]
theorem quoint_val {t r:TypeId} {x y:Operand} {n m:Int} (ho:o.op=.binOp .quo t x y r) (hx:a.eval x=.int .i64 n) (hy:a.eval y=.int .i64 m) (hm:m≠0):(execOp a.eval o).run P w=.ok (.value (.int .i64 (IntKind.i64.wrap (n.tdiv m)))) w:=by
 simp only[execOp,ho,hx,hy]
 simp[go_sem,eqGuard,Sem.run_pure,binOp,hm]
theorem remint_val {t r:TypeId} {x y:Operand} {n m:Int} (ho:o.op=.binOp .rem t x y r) (hx:a.eval x=.int .i64 n) (hy:a.eval y=.int .i64 m) (hm:m≠0):(execOp a.eval o).run P w=.ok (.value (.int .i64 (n.tmod m))) w:=by
 simp only[execOp,ho,hx,hy]
 simp[go_sem,eqGuard,Sem.run_pure,binOp,hm]
theorem addint_val {t r:TypeId} {x y:Operand} {k:IntKind} {n m:Int} (ho:o.op=.binOp .add t x y r) (hx:a.eval x=.int k n) (hy:a.eval y=.int k m):(execOp a.eval o).run P w=.ok (.value (.int k (k.wrap (n+m)))) w:=by
 simp only[execOp,ho,hx,hy]
 simp[go_sem,eqGuard,Sem.run_pure,binOp]
theorem addstr_val {t r:TypeId} {x y:Operand} {n m:ByteArray} (ho:o.op=.binOp .add t x y r) (hx:a.eval x=.string n) (hy:a.eval y=.string m) (hl:n.size+m.size≤2000):(execOp a.eval o).run P w=.ok (.value (.string (n++m))) w:=by
 simp only[execOp,ho,hx,hy]
 simp[go_sem,eqGuard,Sem.run_pure,binOp,Op.stringOp]
 omega
theorem len_val {x:Operand} {t e:TypeId} {ad:Option Addr} {n c:Nat} (hu:P.underlying t=some (.slice e)) (ho:o.op=.call { callee:=.builtin .len,args:=#[x],argTypes:=#[t] }) (hx:a.eval x=.slice ad n c):(execOp a.eval o).run P w=.ok (.value (.int .i64 n)) w:=by
 simp only[execOp,ho,resolve,List.map_toArray,List.map_cons,List.map_nil,hx]
 simp[go_sem,invoke,Builtin.len_,run_underlying hu,Result.andThen,Sem.run_bind,Sem.run_pure]
end
section
variable {a:Act} {us:Nat→Value} {D:List Nat} {d:Nat}
theorem fill_nil:fill a [] us=a:=by
 obtain ⟨⟨l⟩,e⟩:=a
 unfold fill
 congr 1
 congr 1
 refine List.ext_getElem (by simp) fun i h1 h2=>?_
 simp
theorem fill_cons:fill a (d :: D) us=(fill a D us).put (some d) (us d):=by
 obtain ⟨⟨l⟩,e⟩:=a
 show (⟨_,e⟩:Act)=⟨((l.mapIdx fun k x=>if D.contains k then us k else x).toArray).setIfInBounds d (us d),e⟩
 congr 1
 rw[List.setIfInBounds_toArray]
 congr 1
 refine List.ext_getElem (by simp only[List.length_set,List.length_mapIdx]) fun i h1 h2=>?_
 simp only[List.getElem_set,List.getElem_mapIdx,List.contains_cons]
 by_cases hi:d=i
 ·subst hi;simp
 ·rw[if_neg hi]
  have:(i==d)=false:=by simp;exact fun h=>hi h.symm
  rw[this,Bool.false_or]
end
def regionsIn:Code→List Code
 |.seq a b=>regionsIn a++regionsIn b
 |.cond _ a b=>regionsIn a++regionsIn b
 |.block _ c=>regionsIn c
 |.loop c=>regionsIn c
 |.scope c=>regionsIn c
 |.region i o d=>[.region i o d]
 |_=>[]
def regionIn (c:Option Code) (k:Nat):Code:=(((c.map regionsIn).getD []).find? fun r=>match r with | .region i _ _=>i==k|_=>false).getD .skip
section
variable {P:Program} {ops:Array Oper} {md:Region.Mode} {C:World→Prop} {S:World→World→Prop} {F:Nat→Value→World→Prop} {a0:Act} {D:List Nat} {j:Nat} {o:Oper}
theorem wants_not {us:Nat→Value} {k d:Nat} {b:Bool} (h:o.guard=some (k,b)) (hk:(ops[k]?).bind (·.dst)=some d) (hd:D.contains d=true) (hl:d<a0.tmps.size) (hu:us d=.bool (!b)):¬ Wants ops o a0 D us:=by
 unfold Wants Region.wanted
 rw[h]
 simp[yielded,hk,fill_at hd hl,hu]
theorem flow_skip (hw:∀ us w,C w→(∀ k,k∈depsOf md o→F k (us (dstOf ops k)) w)→¬ Wants ops o a0 D us)
  (hS:∀ w,S w w) (hF:∀ v w,F j v w):FlowAt P md ops C S F a0 D j o:=by
 intro us w hC hd' Q hQ
 unfold wpList
 rw[if_neg (show ¬ Region.wanted o (yielded ops (fill a0 D us).tmps)=true from hw us w hC hd')]
 exact hQ undef w (hS w) (hF _ _)
end
section
variable {P:Program} {a:Act} {o:Oper} {w:World}
theorem mulint_val {t r:TypeId} {x y:Operand} {k:IntKind} {n m:Int} (ho:o.op=.binOp .mul t x y r) (hx:a.eval x=.int k n) (hy:a.eval y=.int k m):(execOp a.eval o).run P w=.ok (.value (.int k (k.wrap (n*m)))) w:=by
 simp only[execOp,ho,hx,hy]
 simp[go_sem,eqGuard,Sem.run_pure,binOp]
theorem loadc_val {t:TypeId} {x:Operand} {p v:Value} (ho:o.op=.load t x) (hx:a.eval x=p) (h:(Instr.loadAt t p).run P w=.ok v w):(execOp a.eval o).run P w=.ok (.value v) w:=by
 simp[execOp,ho,hx,h,Result.andThen]
theorem idx_val {t:TypeId} {x y:Operand} {u v p:Value} (ho:o.op=.indexAddr t x y) (hx:a.eval x=u) (hy:a.eval y=v) (h:(Instr.indexAt t u v).run P w=.ok p w):(execOp a.eval o).run P w=.ok (.value p) w:=by
 simp[execOp,ho,hx,hy,h,Result.andThen]
end
theorem idxI (w:World) (sb so n c:Nat) (i:Nat) (h:i<n):(Instr.indexAt 51 (.slice (some ⟨sb,so,none⟩) n c) (.int .i64 (i:Int))).run Tryz.prog w=.ok (.pointer (some ⟨sb,so+i,none⟩)) w:=by
 have h1:(0:Int)≤(i:Int)∧(i:Int)<(n:Int):=⟨by omega,by omega⟩
 simp[go_sem,h1]
theorem loadI {w:World} {ad:Addr} {z:Int} (h:w.cell? ad=some (.int .i64 z)):(Instr.loadAt 3 (.pointer (some ad))).run Tryz.prog w=.ok (.int .i64 z) w:=by simp[go_sem,h]
noncomputable def rs_regionC:Code:=regionIn Tryz.f151.body 3
theorem rs_region (a:Act) (u:Nat) (T1 T2:ByteArray) (W w:World) (Q:Exit→Act→World→Prop) (hsz:a.tmps.size=20)
  (h0:a.eval (.tmp 0)=.int .i64 (u:Int))
  (hS:∀ w,W.grownBy w none→Calls Tryz.prog 151 #[.int .i64 ((u/10:Nat):Int)] w fun e w'=>∃ v,e=.returned v∧w.grownBy w' none∧isV (.string T1) v w')
  (hCv:∀ w,(convert 3 5 (.int .i64 ((48+u%10:Nat):Int))).run Tryz.prog w=.ok (.int .u8 ((48+u%10:Nat):Int)) w)
  (hBd:∀ w,(Instr.buildSlice 33 1 #[(0,.int .u8 ((48+u%10:Nat):Int))]).run Tryz.prog w=.ok (.slice (some ⟨w.heap.size,0,none⟩) 1 1) (w.alloc (.cells #[.int .u8 ((48+u%10:Nat):Int)] 5)))
  (hBl:48+u%10<256)
  (hSu:∀ w x,Bytes w x [48+u%10]→(convert 33 9 x).run Tryz.prog w=.ok (.string T2) w)
  (hu1:IntKind.i64.wrap ((u:Int).tdiv 10)=((u/10:Nat):Int))
  (hu2:(u:Int).tmod 10=((u%10:Nat):Int))
  (hu3:IntKind.i64.wrap (48+((u%10:Nat):Int))=((48+u%10:Nat):Int))
  (hlen:T1.size+T2.size≤2000)
  (hw:W.grownBy { w with drawn:=w.drawn+1 } none)
  (hQ:∀ us w',W.grownBy w' none→Q .normal ((fill a [10,11,12,13,14,15,16,17,18,19] us).put (some 2) (.string (T1++T2))) w'):rs_regionC.wp Tryz.prog Q a w:=by
 have hst:StaysAll [isV (.int .i64 (u:Int)),isV (.int .i64 ((u/10:Nat):Int)),isV (.string T1),isV (.int .i64 (u:Int)),isV (.int .i64 ((u%10:Nat):Int)),isV (.int .i64 ((48+u%10:Nat):Int)),isV (.int .u8 ((48+u%10:Nat):Int)),isB [48+u%10],isV (.string T2),isV (.string (T1++T2))]:=⟨stays_V _,stays_V _,stays_V _,stays_V _,stays_V _,stays_V _,stays_V _,stays_B _,stays_V _,stays_V _,trivial⟩
 conv=>arg 2;whnf
 refine wp_region_flow 10 [10,11,12,13,14,15,16,17,18,19] (fun w'=>W.grownBy w' none) (fun w w'=>w.grownBy w' none) (flF [isV (.int .i64 (u:Int)),isV (.int .i64 ((u/10:Nat):Int)),isV (.string T1),isV (.int .i64 (u:Int)),isV (.int .i64 ((u%10:Nat):Int)),isV (.int .i64 ((48+u%10:Nat):Int)),isV (.int .u8 ((48+u%10:Nat):Int)),isB [48+u%10],isV (.string T2),isV (.string (T1++T2))]) (by kernel_rfl) (by kernel_rfl) (fun _ _ h k=>grown_trans k h) (fun j x w w' hg h=>flF_stays hst j x w w' hg h) hw ?_ ?_
 ·refine ⟨?_,?_,?_,?_,?_,?_,?_,?_,?_,?_,trivial⟩
  ·exact flow_step (fun us w hC hd=>wants_free rfl) (fun us w hC hd=>⟨_,w,move_val rfl ((fill_old (by rfl)).trans h0),grown_refl _ _,rfl⟩)
  ·exact flow_step (fun us w hC hd=>wants_free rfl) (fun us w hC hd=>⟨_,w,(quoint_val rfl ((fill_tmp (by rfl) (by rw[hsz];decide)).trans (hd 0 (by decide))) rfl (by decide)).trans (by rw[hu1]),grown_refl _ _,rfl⟩)
  ·refine flow_call 151 (fun us=>#[us 11]) (fun us w hC hd=>wants_free rfl) (fun us w=>by rw[call_enter rfl (fun _ _=>by simp[go_sem]),List.map_toArray,List.map_cons,List.map_nil,fill_tmp (by rfl) (by rw[hsz];decide)]) (fun us w hC' hd=>?_)
   rw[show us 11=.int .i64 ((u/10:Nat):Int) from hd 1 (by decide)]
   exact hS w hC'
  ·exact flow_step (fun us w hC hd=>wants_free rfl) (fun us w hC hd=>⟨_,w,move_val rfl ((fill_old (by rfl)).trans h0),grown_refl _ _,rfl⟩)
  ·exact flow_step (fun us w hC hd=>wants_free rfl) (fun us w hC hd=>⟨_,w,(remint_val rfl ((fill_tmp (by rfl) (by rw[hsz];decide)).trans (hd 3 (by decide))) rfl (by decide)).trans (by rw[hu2]),grown_refl _ _,rfl⟩)
  ·exact flow_step (fun us w hC hd=>wants_free rfl) (fun us w hC hd=>⟨_,w,(addint_val rfl rfl ((fill_tmp (by rfl) (by rw[hsz];decide)).trans (hd 4 (by decide)))).trans (by rw[hu3]),grown_refl _ _,rfl⟩)
  ·exact flow_step (fun us w hC hd=>wants_free rfl) (fun us w hC hd=>⟨_,w,conv_val rfl ((fill_tmp (by rfl) (by rw[hsz];decide)).trans (hd 5 (by decide))) (hCv w),grown_refl _ _,rfl⟩)
  ·exact flow_step (fun us w hC hd=>wants_free rfl) (fun us w hC hd=>⟨_,_,build1_val rfl ((fill_tmp (by rfl) (by rw[hsz];decide)).trans (hd 6 (by decide))) (hBd w),World.grownBy_alloc _ _ _,Bytes.lit (l:=[48+u%10]) (alloc_at w _) (by simpa using hBl)⟩)
  ·exact flow_step (fun us w hC hd=>wants_free rfl) (fun us w hC hd=>⟨_,w,conv_val rfl (fill_tmp (by rfl) (by rw[hsz];decide)) (hSu w _ (hd 7 (by decide))),grown_refl _ _,rfl⟩)
  ·exact flow_step (fun us w hC hd=>wants_free rfl) (fun us w hC hd=>⟨_,w,addstr_val rfl ((fill_tmp (by rfl) (by rw[hsz];decide)).trans (hd 2 (by decide))) ((fill_tmp (by rfl) (by rw[hsz];decide)).trans (hd 8 (by decide))) hlen,grown_refl _ _,rfl⟩)
 ·intro us w' hC' hd
  exact wpList_last rfl (assign_val rfl ((fill_tmp (by rfl) (by rw[hsz];decide)).trans (hd 9 (by decide)))) (hQ us w' hC')
def isIf (g b:Bool) (v:Value):Value→World→Prop:=fun x _=>g=b→x=v
theorem stays_If (g b:Bool) (v:Value):Stays (isIf g b v):=fun _ _ _ _ h=>h
section
variable {P:Program} {a:Act} {o:Oper} {w:World}
theorem fieldA_val {t:TypeId} {x:Operand} {k:Nat} {p v:Value} (ho:o.op=.fieldAddr t x k) (hx:a.eval x=p) (h:(Instr.fieldAt t p k).run P w=.ok v w):(execOp a.eval o).run P w=.ok (.value v) w:=by
 simp[execOp,ho,hx,h,Result.andThen]
theorem cmpgtr_val {t r:TypeId} {x y:Operand} {k:IntKind} {n m:Int} (ho:o.op=.binOp .gtr t x y r) (hx:a.eval x=.int k n) (hy:a.eval y=.int k m):(execOp a.eval o).run P w=.ok (.value (.bool (decide (m<n)))) w:=by
 simp only[execOp,ho,hx,hy]
 simp[go_sem,eqGuard,Sem.run_pure,binOp]
end
section
variable {P:Program} {a:Act} {o:Oper} {w:World}
theorem neqstr2_val {t r:TypeId} {x y:Operand} {s s':ByteArray} (ho:o.op=.binOp .neq t x y r) (hx:a.eval x=.string s) (hy:a.eval y=.string s'):(execOp a.eval o).run P w=.ok (.value (.bool (!(s.toList==s'.toList)))) w:=by
 simp only[execOp,ho,hx,hy]
 simp[eqGuard,Sem.run_pure,binOp,Op.stringOp,bne]
theorem slice2_val {t:TypeId} {x lo hi:Operand} {p u v z:Value} (ho:o.op=.slice t x (some lo) (some hi) none) (hx:a.eval x=p) (hl:a.eval lo=u) (hh:a.eval hi=v) (h:(Instr.sliceAt t p (some u) (some v) none).run P w=.ok z w) :
  (execOp a.eval o).run P w=.ok (.value z) w:=by
 simp only[execOp,ho,hx,hl,hh,Option.map_some,Option.map_none]
 simp[h,Sem.run_bind,Result.andThen]
end
noncomputable def nx_regionC:Code:=regionIn Tryz.f92.body 20
theorem nx_region (a:Act) (v u:Value) (n m:Int) (S S2:ByteArray) (B:List Nat) (W w:World) (Q:Exit→Act→World→Prop) (hsz:a.tmps.size=81)
  (h0:a.eval (.tmp 0)=v)
  (h6:a.eval (.tmp 6)=.int .i64 n)
  (h7:a.eval (.tmp 7)=.int .i64 m)
  (hF:∀ w,W.grownBy w none→Calls Tryz.prog 129 #[.int .i64 n] w fun e w'=>∃ v,e=.returned v∧w.grownBy w' none∧isB B v w')
  (hSa:∀ w,W.grownBy w none→(convert 33 9 u).run Tryz.prog w=.ok (.string S2) w)
  (hSu:∀ w x,Bytes w x B→(convert 33 9 x).run Tryz.prog w=.ok (.string S) w)
  (hSl:∀ w,(Instr.sliceAt 33 v (some (.int .i64 1)) (some (.int .i64 m)) none).run Tryz.prog w=.ok u w)
  (hw:W.grownBy { w with drawn:=w.drawn+1 } none)
  (hQ:∀ us w',W.grownBy w' none→Q .normal ((fill a [57,58,59,60,61,62,63] us).put (some 64) (.bool (!(S.toList==S2.toList)))) w'):nx_regionC.wp Tryz.prog Q a w:=by
 have hst:StaysAll [isV (.int .i64 n),isB B,isV (.string S),isV (v),isV (.int .i64 m),isV (u),isV (.string S2)]:=⟨stays_V _,stays_B _,stays_V _,stays_V _,stays_V _,stays_V _,stays_V _,trivial⟩
 conv=>arg 2;whnf
 refine wp_region_flow 7 [57,58,59,60,61,62,63] (fun w'=>W.grownBy w' none) (fun w w'=>w.grownBy w' none) (flF [isV (.int .i64 n),isB B,isV (.string S),isV (v),isV (.int .i64 m),isV (u),isV (.string S2)]) (by kernel_rfl) (by kernel_rfl) (fun _ _ h k=>grown_trans k h) (fun j x w w' hg h=>flF_stays hst j x w w' hg h) hw ?_ ?_
 ·refine ⟨?_,?_,?_,?_,?_,?_,?_,trivial⟩
  ·exact flow_step (fun us w hC hd=>wants_free rfl) (fun us w hC hd=>⟨_,w,move_val rfl ((fill_old (by rfl)).trans h6),grown_refl _ _,rfl⟩)
  ·refine flow_call 129 (fun us=>#[us 57]) (fun us w hC hd=>wants_free rfl) (fun us w=>by rw[call_enter rfl (fun _ _=>by simp[go_sem]),List.map_toArray,List.map_cons,List.map_nil,fill_tmp (by rfl) (by rw[hsz];decide)]) (fun us w hC' hd=>?_)
   rw[show us 57=.int .i64 n from hd 0 (by decide)]
   exact hF w hC'
  ·exact flow_step (fun us w hC hd=>wants_free rfl) (fun us w hC hd=>⟨_,w,conv_val rfl (fill_tmp (by rfl) (by rw[hsz];decide)) (hSu w _ (hd 1 (by decide))),grown_refl _ _,rfl⟩)
  ·exact flow_step (fun us w hC hd=>wants_free rfl) (fun us w hC hd=>⟨_,w,move_val rfl ((fill_old (by rfl)).trans h0),grown_refl _ _,rfl⟩)
  ·exact flow_step (fun us w hC hd=>wants_free rfl) (fun us w hC hd=>⟨_,w,move_val rfl ((fill_old (by rfl)).trans h7),grown_refl _ _,rfl⟩)
  ·exact flow_step (fun us w hC hd=>wants_free rfl) (fun us w hC hd=>⟨_,w,slice2_val rfl ((fill_tmp (by rfl) (by rw[hsz];decide)).trans (hd 3 (by decide))) rfl ((fill_tmp (by rfl) (by rw[hsz];decide)).trans (hd 4 (by decide))) (hSl w),grown_refl _ _,rfl⟩)
  ·exact flow_step (fun us w hC hd=>wants_free rfl) (fun us w hC hd=>⟨_,w,conv_val rfl ((fill_tmp (by rfl) (by rw[hsz];decide)).trans (hd 5 (by decide))) (hSa w hC),grown_refl _ _,rfl⟩)
 ·intro us w' hC' hd
  exact wpList_last rfl (neqstr2_val rfl ((fill_tmp (by rfl) (by rw[hsz];decide)).trans (hd 2 (by decide))) ((fill_tmp (by rfl) (by rw[hsz];decide)).trans (hd 6 (by decide)))) (hQ us w' hC')
section
variable {P:Program} {a:Act} {o:Oper} {w:World}
theorem neqint1_val {t r:TypeId} {x y:Operand} {k:IntKind} {s s2:Int} (ho:o.op=.binOp .neq t x y r) (hx:a.eval x=.int k s) (hy:a.eval y=.int k s2) (h:¬ s=s2):(execOp a.eval o).run P w=.ok (.value (.bool true)) w:=by
 simp only[execOp,ho,hx,hy]
 simp[go_sem,eqGuard,Sem.run_pure,binOp,h]
end
noncomputable def nr_region10C:Code:=regionIn Tryz.f4.body 10
theorem nr_region10 (a:Act) (b6 n vc:Nat) (va:Option Addr) (DC:Array Value) (S:ByteArray) (B:List Nat) (W w:World) (Q:Exit→Act→World→Prop) (hsz:a.tmps.size=50)
  (h7:a.eval (.tmp 7)=.int .i64 0)
  (h6:a.eval (.tmp 6)=.pointer (some ⟨b6,0,none⟩))
  (h0:a.eval (.tmp 0)=.slice va n vc)
  (hX:∀ w,W.grownBy w none→Calls Tryz.prog 20 #[.agg DC] w fun e w'=>∃ v,e=.returned v∧w.grownBy w' none∧isB B v w')
  (hSa:∀ w,W.grownBy w none→(convert 33 9 (.slice va n vc)).run Tryz.prog w=.ok (.string S) w)
  (hSu:∀ w x,Bytes w x B→(convert 33 9 x).run Tryz.prog w=.ok (.string S) w)
  (h6r:∀ w,W.grownBy w none→w.heap[b6]?=some (.cells DC 23 (0,0)))
  (hI1:(Tryz.prog.info? 23).map (·.size)=some DC.size)
  (hw:W.grownBy { w with drawn:=w.drawn+1 } none)
  (hQ:∀ us w',W.grownBy w' none→Q .normal ((fill a [40,41,42,43,44,45,46,47,48,49] us).put (some 2) (.bool true)) w'):nr_region10C.wp Tryz.prog Q a w:=by
 have hst:StaysAll [isV (.int .i64 0),isV (.bool false),isV (.bool false),isV (.agg DC),isB B,isV (.string S),isV (.slice va n vc),isV (.string S),isV (.bool true),isV (.bool true)]:=⟨stays_V _,stays_V _,stays_V _,stays_V _,stays_B _,stays_V _,stays_V _,stays_V _,stays_V _,stays_V _,trivial⟩
 conv=>arg 2;whnf
 refine wp_region_flow 10 [40,41,42,43,44,45,46,47,48,49] (fun w'=>W.grownBy w' none) (fun w w'=>w.grownBy w' none) (flF [isV (.int .i64 0),isV (.bool false),isV (.bool false),isV (.agg DC),isB B,isV (.string S),isV (.slice va n vc),isV (.string S),isV (.bool true),isV (.bool true)]) (by kernel_rfl) (by kernel_rfl) (fun _ _ h k=>grown_trans k h) (fun j x w w' hg h=>flF_stays hst j x w w' hg h) hw ?_ ?_
 ·refine ⟨?_,?_,?_,?_,?_,?_,?_,?_,?_,?_,trivial⟩
  ·exact flow_step (fun us w hC hd=>wants_free rfl) (fun us w hC hd=>⟨_,w,move_val rfl ((fill_old (by rfl)).trans h7),grown_refl _ _,rfl⟩)
  ·exact flow_step (fun us w hC hd=>wants_free rfl) (fun us w hC hd=>⟨_,w,neqint_val rfl ((fill_tmp (by rfl) (by rw[hsz];decide)).trans (hd 0 (by decide))) rfl,grown_refl _ _,rfl⟩)
  ·exact flow_step (fun us w hC hd=>wants_free rfl) (fun us w hC hd=>⟨_,w,move_val rfl ((fill_tmp (by rfl) (by rw[hsz];decide)).trans (hd 1 (by decide))),grown_refl _ _,rfl⟩)
  ·exact flow_step (fun us w hC hd=>wants_on (d:=42) (b:=false) rfl rfl (by rfl) (by rw[hsz];decide) (hd 2 (by decide))) (fun us w hC hd=>⟨_,w,load_val rfl ((fill_old (by rfl)).trans h6) (h6r w hC) Tryz.underlying23 rfl hI1,grown_refl _ _,rfl⟩)
  ·refine flow_call 20 (fun us=>#[us 43]) (fun us w hC hd=>wants_on (d:=42) (b:=false) rfl rfl (by rfl) (by rw[hsz];decide) (hd 2 (by decide))) (fun us w=>by rw[call_enter rfl (fun _ _=>by simp[go_sem]),List.map_toArray,List.map_cons,List.map_nil,fill_tmp (by rfl) (by rw[hsz];decide)]) (fun us w hC' hd=>?_)
   rw[show us 43=.agg DC from hd 3 (by decide)]
   exact hX w hC'
  ·exact flow_step (fun us w hC hd=>wants_on (d:=42) (b:=false) rfl rfl (by rfl) (by rw[hsz];decide) (hd 2 (by decide))) (fun us w hC hd=>⟨_,w,conv_val rfl (fill_tmp (by rfl) (by rw[hsz];decide)) (hSu w _ (hd 4 (by decide))),grown_refl _ _,rfl⟩)
  ·exact flow_step (fun us w hC hd=>wants_on (d:=42) (b:=false) rfl rfl (by rfl) (by rw[hsz];decide) (hd 2 (by decide))) (fun us w hC hd=>⟨_,w,move_val rfl ((fill_old (by rfl)).trans h0),grown_refl _ _,rfl⟩)
  ·exact flow_step (fun us w hC hd=>wants_on (d:=42) (b:=false) rfl rfl (by rfl) (by rw[hsz];decide) (hd 2 (by decide))) (fun us w hC hd=>⟨_,w,conv_val rfl ((fill_tmp (by rfl) (by rw[hsz];decide)).trans (hd 6 (by decide))) (hSa w hC),grown_refl _ _,rfl⟩)
  ·exact flow_step (fun us w hC hd=>wants_on (d:=42) (b:=false) rfl rfl (by rfl) (by rw[hsz];decide) (hd 2 (by decide))) (fun us w hC hd=>⟨_,w,eqlstr_val rfl ((fill_tmp (by rfl) (by rw[hsz];decide)).trans (hd 5 (by decide))) ((fill_tmp (by rfl) (by rw[hsz];decide)).trans (hd 7 (by decide))),grown_refl _ _,rfl⟩)
  ·exact flow_step (fun us w hC hd=>wants_free rfl) (fun us w hC hd=>⟨_,w,pick_false rfl ((fill_tmp (by rfl) (by rw[hsz];decide)).trans (hd 2 (by decide))) ((fill_tmp (by rfl) (by rw[hsz];decide)).trans (hd 8 (by decide))),grown_refl _ _,rfl⟩)
 ·intro us w' hC' hd
  exact wpList_last rfl (assign_val rfl ((fill_tmp (by rfl) (by rw[hsz];decide)).trans (hd 9 (by decide)))) (hQ us w' hC')
noncomputable def nr_region10eC:Code:=regionIn Tryz.f4.body 10
theorem nr_region10e (a:Act) (b6 n vc E:Nat) (va:Option Addr) (W w:World) (Q:Exit→Act→World→Prop) (hsz:a.tmps.size=50)
  (h7:a.eval (.tmp 7)=.int .i64 (E:Nat))
  (h6:a.eval (.tmp 6)=.pointer (some ⟨b6,0,none⟩))
  (h0:a.eval (.tmp 0)=.slice va n vc)
  (hE:¬ ((E:Nat):Int)=0)
  (hw:W.grownBy { w with drawn:=w.drawn+1 } none)
  (hQ:∀ us w',W.grownBy w' none→Q .normal ((fill a [40,41,42,43,44,45,46,47,48,49] us).put (some 2) (.bool true)) w'):nr_region10eC.wp Tryz.prog Q a w:=by
 have hst:StaysAll [isV (.int .i64 (E:Nat)),isV (.bool true),isV (.bool true),isAny,isAny,isAny,isAny,isAny,isAny,isV (.bool true)]:=⟨stays_V _,stays_V _,stays_V _,stays_any,stays_any,stays_any,stays_any,stays_any,stays_any,stays_V _,trivial⟩
 conv=>arg 2;whnf
 refine wp_region_flow 10 [40,41,42,43,44,45,46,47,48,49] (fun w'=>W.grownBy w' none) (fun w w'=>w.grownBy w' none) (flF [isV (.int .i64 (E:Nat)),isV (.bool true),isV (.bool true),isAny,isAny,isAny,isAny,isAny,isAny,isV (.bool true)]) (by kernel_rfl) (by kernel_rfl) (fun _ _ h k=>grown_trans k h) (fun j x w w' hg h=>flF_stays hst j x w w' hg h) hw ?_ ?_
 ·refine ⟨?_,?_,?_,?_,?_,?_,?_,?_,?_,?_,trivial⟩
  ·exact flow_step (fun us w hC hd=>wants_free rfl) (fun us w hC hd=>⟨_,w,move_val rfl ((fill_old (by rfl)).trans h7),grown_refl _ _,rfl⟩)
  ·exact flow_step (fun us w hC hd=>wants_free rfl) (fun us w hC hd=>⟨_,w,neqint1_val rfl ((fill_tmp (by rfl) (by rw[hsz];decide)).trans (hd 0 (by decide))) rfl hE,grown_refl _ _,rfl⟩)
  ·exact flow_step (fun us w hC hd=>wants_free rfl) (fun us w hC hd=>⟨_,w,move_val rfl ((fill_tmp (by rfl) (by rw[hsz];decide)).trans (hd 1 (by decide))),grown_refl _ _,rfl⟩)
  ·exact flow_skip (fun us w hC hd=>wants_not (d:=42) (b:=false) rfl rfl (by rfl) (by rw[hsz];decide) (hd 2 (by decide))) (fun _=>grown_refl _ _) (fun _ _=>trivial)
  ·exact flow_skip (fun us w hC hd=>wants_not (d:=42) (b:=false) rfl rfl (by rfl) (by rw[hsz];decide) (hd 2 (by decide))) (fun _=>grown_refl _ _) (fun _ _=>trivial)
  ·exact flow_skip (fun us w hC hd=>wants_not (d:=42) (b:=false) rfl rfl (by rfl) (by rw[hsz];decide) (hd 2 (by decide))) (fun _=>grown_refl _ _) (fun _ _=>trivial)
  ·exact flow_skip (fun us w hC hd=>wants_not (d:=42) (b:=false) rfl rfl (by rfl) (by rw[hsz];decide) (hd 2 (by decide))) (fun _=>grown_refl _ _) (fun _ _=>trivial)
  ·exact flow_skip (fun us w hC hd=>wants_not (d:=42) (b:=false) rfl rfl (by rfl) (by rw[hsz];decide) (hd 2 (by decide))) (fun _=>grown_refl _ _) (fun _ _=>trivial)
  ·exact flow_skip (fun us w hC hd=>wants_not (d:=42) (b:=false) rfl rfl (by rfl) (by rw[hsz];decide) (hd 2 (by decide))) (fun _=>grown_refl _ _) (fun _ _=>trivial)
  ·exact flow_step (fun us w hC hd=>wants_free rfl) (fun us w hC hd=>⟨_,w,pick_true rfl ((fill_tmp (by rfl) (by rw[hsz];decide)).trans (hd 2 (by decide))) rfl,grown_refl _ _,rfl⟩)
 ·intro us w' hC' hd
  exact wpList_last rfl (assign_val rfl ((fill_tmp (by rfl) (by rw[hsz];decide)).trans (hd 9 (by decide)))) (hQ us w' hC')
end Go.Proofs.YtijkaknggdaajaaGreatDoor
