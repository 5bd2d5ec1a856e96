import Derived.Test.YtijkaknggdaajaaGreatDoorZw03
import Derived.Test.YtijkaknggdaajaaGreatDoorZw06
import Derived.Test.YtijkaknggdaajaaGreatDoorZw07
set_option linter.unusedVariables false
set_option linter.unusedSimpArgs false
set_option maxRecDepth 100000
set_option maxHeartbeats 2000000
namespace Go.Proofs.YtijkaknggdaajaaGreatDoor
open Go.Proofs.Tryz
open Lib (hid)
open Go.RowKit
def zFD (P:Value->World->Prop):Prop:=∀ x w w',World.grownBy w w' none->P x w->P x w'
def zA9:List (Value->World->Prop)->Prop
 |[]=>True
 |P :: r=>zFD P/\zA9 r
def isV (v:Value):Value->World->Prop:=fun x _=>x=v
def isB (l:List Nat):Value->World->Prop:=fun x w=>Bytes w x l
def zMu:Value->World->Prop:=fun _ _=>True
theorem zAj (v:Value):zFD (isV v):=fun _ _ _ _ h=>h
theorem zIj (l:List Nat):zFD (isB l):=fun _ _ _ hg h=>Bytes.grown h hg
def flF (Ps:List (Value->World->Prop)) (j:Nat):Value->World->Prop:=Ps.getD j zMu
theorem zA3:∀ {Ps:List (Value->World->Prop)},zA9 Ps->∀ (j:Nat) (x:Value) (w w':World),World.grownBy w w' none->flF Ps j x w->flF Ps j x w'
 |[],_,j,x,w,w',_,_=>by simp[flF,zMu]
 |P :: r,h,0,x,w,w',hg,hx=>h.1 x w w' hg hx
 |P :: r,h,j+1,x,w,w',hg,hx=>zA3 h.2 j x w w' hg hx
section
variable {P:Program} {a:Act} {o:Oper} {w:World}
theorem zB9 {s d:TypeId} {x:Operand} {p v:Value} (ho:o.op=.convert s d x) (hx:a.eval x=p) (h:(convert s d p).run P w=.ok v w):(execOp a.eval o).run P w=.ok (.value v) w:=by
 simp[execOp,ho,hx,h,Result.andThen]
theorem pick_false {c x y:Operand} {v:Value} (ho:o.op=.pick c x y) (hc:a.eval c=.bool false) (hy:a.eval y=v):(execOp a.eval o).run P w=.ok (.value v) w:=by
 simp[execOp,ho,hc,hy,Sem.run_pure,asBool]
theorem zDW {t r:TypeId} {x y:Operand} {k:IntKind} {s:Int} (ho:o.op=.binOp .neq t x y r) (hx:a.eval x=.int k s) (hy:a.eval y=.int k s):(execOp a.eval o).run P w=.ok (.value (.bool false)) w:=by
 simp only[execOp,ho,hx,hy];simp[go_sem,eqGuard,Sem.run_pure,binOp]
theorem zLG {t:TypeId} {x:Operand} {b:Bool} (ho:o.op=.unOp .not t x) (hx:a.eval x=.bool b):(execOp a.eval o).run P w=.ok (.value (.bool (!b))) w:=by
 simp only[execOp,ho,hx];simp[go_sem]
theorem zHs {t r:TypeId} {x y:Operand} {n m:Int} (ho:o.op=.binOp .quo t x y r) (hx:a.eval x=.int .i64 n) (hy:a.eval y=.int .i64 m) (hm:m≠0):(execOp a.eval o).run P w=.ok (.value (.int .i64 (IntKind.i64.wrap (n.tdiv m)))) w:=by
 simp only[execOp,ho,hx,hy];simp[go_sem,eqGuard,Sem.run_pure,binOp,hm]
theorem zHm {t r:TypeId} {x y:Operand} {n m:Int} (ho:o.op=.binOp .rem t x y r) (hx:a.eval x=.int .i64 n) (hy:a.eval y=.int .i64 m) (hm:m≠0):(execOp a.eval o).run P w=.ok (.value (.int .i64 (n.tmod m))) w:=by
 simp only[execOp,ho,hx,hy];simp[go_sem,eqGuard,Sem.run_pure,binOp,hm]
theorem zEa {t r:TypeId} {x y:Operand} {k:IntKind} {n m:Int} (ho:o.op=.binOp .add t x y r) (hx:a.eval x=.int k n) (hy:a.eval y=.int k m):(execOp a.eval o).run P w=.ok (.value (.int k (k.wrap (n+m)))) w:=by
 simp only[execOp,ho,hx,hy];simp[go_sem,eqGuard,Sem.run_pure,binOp]
theorem zH3 {t r:TypeId} {x y:Operand} {n m:ByteArray} (ho:o.op=.binOp .add t x y r) (hx:a.eval x=.string n) (hy:a.eval y=.string m) (hl:n.size+m.size<=2000):(execOp a.eval o).run P w=.ok (.value (.string (n++m))) w:=by
 simp only[execOp,ho,hx,hy];simp[go_sem,eqGuard,Sem.run_pure,binOp,Op.stringOp];omega
theorem zJc {x:Operand} {t e:TypeId} {ad:Option Addr} {n c:Nat} (hu:P.underlying t=some (.slice e)) (ho:o.op=.call { callee:=.builtin .len,args:=#[x],argTypes:=#[t] }) (hx:a.eval x=.slice ad n c):(execOp a.eval o).run P w=.ok (.value (.int .i64 n)) w:=by
 simp only[execOp,ho,resolve,List.map_toArray,List.map_cons,List.map_nil,hx];simp[go_sem,invoke,Builtin.len_,run_underlying hu,Result.andThen,Sem.run_bind,Sem.run_pure]
end
section
variable {a:Act} {us:Nat->Value} {D:List Nat} {d:Nat}
theorem zAN:fill a [] us=a:=by
 obtain⟨⟨l⟩,e⟩:=a;unfold fill
 congr 1
 congr 1
 refine List.ext_getElem (by simp) fun i h1 h2=>?_
 simp
theorem zAA:fill a (d :: D) us=(fill a D us).put (some d) (us d):=by
 obtain⟨⟨l⟩,e⟩:=a
 show(⟨_,e⟩:Act)=⟨((l.mapIdx fun k x=>if D.contains k then us k else x).toArray).setIfInBounds d (us d),e⟩
 congr 1
 rw[List.setIfInBounds_toArray]
 congr 1
 refine List.ext_getElem (by simp only[List.length_set,List.length_mapIdx]) fun i h1 h2=>?_
 simp only[List.getElem_set,List.getElem_mapIdx,List.contains_cons];by_cases hi:d=i
 ·subst hi;simp
 ·rw[if_neg hi];have:(i==d)=false:=by simp;exact fun h=>hi h.symm
  rw[this,Bool.false_or]
end
def zBi:Code->List Code
 |.seq a b=>zBi a++zBi b
 |.cond _ a b=>zBi a++zBi b
 |.block _ c=>zBi c
 |.loop c=>zBi c
 |.scope c=>zBi c
 |.region i o d=>[.region i o d]
 |_=>[]
def zBn (c:Option Code) (k:Nat):Code:=(((c.map zBi).getD []).find? fun r=>match r with | .region i _ _=>i==k|_=>false).getD .skip
section
variable {P:Program} {ops:Array Oper} {md:Region.Mode} {C:World->Prop} {S:World->World->Prop} {F:Nat->Value->World->Prop} {a0:Act} {D:List Nat} {j:Nat} {o:Oper}
theorem zCn {us:Nat->Value} {k d:Nat} {b:Bool} (h:o.guard=some (k,b)) (hk:(ops[k]?).bind (·.dst)=some d) (hd:D.contains d=true) (hl:d<a0.tmps.size) (hu:us d=.bool (!b)):¬ zEF ops o a0 D us:=by
 unfold zEF Region.wanted;rw[h];simp[yielded,hk,fill_at hd hl,hu]
theorem zCy (hw:∀ us w,C w->(∀ k,k∈zCz md o->F k (us (zBQ ops k)) w)->¬ zEF ops o a0 D us)
  (hS:∀ w,S w w) (hF:∀ v w,F j v w):zDJ P md ops C S F a0 D j o:=by
 intro us w hC hd' Q hQ;unfold wpList;rw[if_neg (show ¬ Region.wanted o (yielded ops (fill a0 D us).tmps)=true from hw us w hC hd')];exact hQ undef w (hS w) (hF _ _)
end
section
variable {P:Program} {a:Act} {o:Oper} {w:World}
theorem zDY {t r:TypeId} {x y:Operand} {k:IntKind} {n m:Int} (ho:o.op=.binOp .mul t x y r) (hx:a.eval x=.int k n) (hy:a.eval y=.int k m):(execOp a.eval o).run P w=.ok (.value (.int k (k.wrap (n*m)))) w:=by
 simp only[execOp,ho,hx,hy];simp[go_sem,eqGuard,Sem.run_pure,binOp]
theorem zAQ {t:TypeId} {x:Operand} {p v:Value} (ho:o.op=.load t x) (hx:a.eval x=p) (h:(Instr.loadAt t p).run P w=.ok v w):(execOp a.eval o).run P w=.ok (.value v) w:=by
 simp[execOp,ho,hx,h,Result.andThen]
theorem zEt {t:TypeId} {x y:Operand} {u v p:Value} (ho:o.op=.indexAddr t x y) (hx:a.eval x=u) (hy:a.eval y=v) (h:(Instr.indexAt t u v).run P w=.ok p w):(execOp a.eval o).run P w=.ok (.value p) w:=by
 simp[execOp,ho,hx,hy,h,Result.andThen]
end
theorem idxI (w:World) (sb so n c:Nat) (i:Nat) (h:i<n):(Instr.indexAt 51 (.slice (some ⟨sb,so,none⟩) n c) (.int .i64 (i:Int))).run prog w=.ok (.pointer (some ⟨sb,so+i,none⟩)) w:=by
 have h1:(0:Int)<=(i:Int)/\(i:Int)<(n:Int):=⟨by omega,by omega⟩;simp[go_sem,h1]
theorem zGf {w:World} {ad:Addr} {z:Int} (h:w.cell? ad=some (.int .i64 z)):(Instr.loadAt 3 (.pointer (some ad))).run prog w=.ok (.int .i64 z) w:=by simp[go_sem,h]
noncomputable def rs_regionC:Code:=zBn Tryz.f151.body 3
theorem zIr (a:Act) (u:Nat) (T1 T2:ByteArray) (W w:World) (Q:Exit->Act->World->Prop) (hsz:a.tmps.size=20)
  (h0:a.eval (.tmp 0)=.int .i64 (u:Int))
  (hS:∀ w,W.grownBy w none->Calls prog 151 #[.int .i64 ((u/10:Nat):Int)] w fun e w'=>∃ v,e=.returned v/\w.grownBy w' none/\isV (.string T1) v w')
  (hCv:∀ w,(convert 3 5 (.int .i64 ((48+u%10:Nat):Int))).run prog w=.ok (.int .u8 ((48+u%10:Nat):Int)) w)
  (hBd:∀ w,(Instr.buildSlice 33 1 #[(0,.int .u8 ((48+u%10:Nat):Int))]).run prog w=.ok (.slice (some ⟨w.heap.size,0,none⟩) 1 1) (w.alloc (.cells #[.int .u8 ((48+u%10:Nat):Int)] 5)))
  (hBl:48+u%10<256)
  (hSu:∀ w x,Bytes w x [48+u%10]->(convert 33 9 x).run prog w=.ok (.string T2) w)
  (hu1:IntKind.i64.wrap ((u:Int).tdiv 10)=((u/10:Nat):Int))
  (hu2:(u:Int).tmod 10=((u%10:Nat):Int))
  (hu3:IntKind.i64.wrap (48+((u%10:Nat):Int))=((48+u%10:Nat):Int))
  (hlen:T1.size+T2.size<=2000)
  (hw:W.grownBy { w with drawn:=w.drawn+1 } none)
  (hQ:∀ us w',W.grownBy w' none->Q .normal ((fill a [10,11,12,13,14,15,16,17,18,19] us).put (some 2) (.string (T1++T2))) w'):rs_regionC.wp prog Q a w:=by
 have hst:zA9 [isV (.int .i64 (u:Int)),isV (.int .i64 ((u/10:Nat):Int)),isV (.string T1),isV (.int .i64 (u:Int)),isV (.int .i64 ((u%10:Nat):Int)),isV (.int .i64 ((48+u%10:Nat):Int)),isV (.int .u8 ((48+u%10:Nat):Int)),isB [48+u%10],isV (.string T2),isV (.string (T1++T2))]:=⟨zAj _,zAj _,zAj _,zAj _,zAj _,zAj _,zAj _,zIj _,zAj _,zAj _,trivial⟩
 conv=>arg 2;whnf
 refine zAG 10 [10,11,12,13,14,15,16,17,18,19] (fun w'=>W.grownBy w' none) (fun w w'=>w.grownBy w' none) (flF [isV (.int .i64 (u:Int)),isV (.int .i64 ((u/10:Nat):Int)),isV (.string T1),isV (.int .i64 (u:Int)),isV (.int .i64 ((u%10:Nat):Int)),isV (.int .i64 ((48+u%10:Nat):Int)),isV (.int .u8 ((48+u%10:Nat):Int)),isB [48+u%10],isV (.string T2),isV (.string (T1++T2))]) (by kernel_rfl) (by kernel_rfl) (fun _ _ h k=>zAb k h) (fun j x w w' hg h=>zA3 hst j x w w' hg h) hw ?_ ?_
 ·refine⟨?_,?_,?_,?_,?_,?_,?_,?_,?_,?_,trivial⟩
  ·exact zAg (fun us w hC hd=>zAf rfl) (fun us w hC hd=>⟨_,w,zAz rfl ((fill_old (by rfl)).trans h0),zAa _ _,rfl⟩)
  ·exact zAg (fun us w hC hd=>zAf rfl) (fun us w hC hd=>⟨_,w,(zHs rfl ((fill_tmp (by rfl) (by rw[hsz];decide)).trans (hd 0 (by decide))) rfl (by decide)).trans (by rw[hu1]),zAa _ _,rfl⟩)
  ·refine zA7 151 (fun us=>#[us 11]) (fun us w hC hd=>zAf rfl) (fun us w=>by rw[zAX rfl (fun _ _=>by simp[go_sem]),List.map_toArray,List.map_cons,List.map_nil,fill_tmp (by rfl) (by rw[hsz];decide)]) (fun us w hC' hd=>?_);rw[show us 11=.int .i64 ((u/10:Nat):Int)from hd 1 (by decide)];exact hS w hC'
  ·exact zAg (fun us w hC hd=>zAf rfl) (fun us w hC hd=>⟨_,w,zAz rfl ((fill_old (by rfl)).trans h0),zAa _ _,rfl⟩)
  ·exact zAg (fun us w hC hd=>zAf rfl) (fun us w hC hd=>⟨_,w,(zHm rfl ((fill_tmp (by rfl) (by rw[hsz];decide)).trans (hd 3 (by decide))) rfl (by decide)).trans (by rw[hu2]),zAa _ _,rfl⟩)
  ·exact zAg (fun us w hC hd=>zAf rfl) (fun us w hC hd=>⟨_,w,(zEa rfl rfl ((fill_tmp (by rfl) (by rw[hsz];decide)).trans (hd 4 (by decide)))).trans (by rw[hu3]),zAa _ _,rfl⟩)
  ·exact zAg (fun us w hC hd=>zAf rfl) (fun us w hC hd=>⟨_,w,zB9 rfl ((fill_tmp (by rfl) (by rw[hsz];decide)).trans (hd 5 (by decide))) (hCv w),zAa _ _,rfl⟩)
  ·exact zAg (fun us w hC hd=>zAf rfl) (fun us w hC hd=>⟨_,_,zHY rfl ((fill_tmp (by rfl) (by rw[hsz];decide)).trans (hd 6 (by decide))) (hBd w),World.grownBy_alloc _ _ _,Bytes.lit (l:=[48+u%10]) (alloc_at w _) (by simpa using hBl)⟩)
  ·exact zAg (fun us w hC hd=>zAf rfl) (fun us w hC hd=>⟨_,w,zB9 rfl (fill_tmp (by rfl) (by rw[hsz];decide)) (hSu w _ (hd 7 (by decide))),zAa _ _,rfl⟩)
  ·exact zAg (fun us w hC hd=>zAf rfl) (fun us w hC hd=>⟨_,w,zH3 rfl ((fill_tmp (by rfl) (by rw[hsz];decide)).trans (hd 2 (by decide))) ((fill_tmp (by rfl) (by rw[hsz];decide)).trans (hd 8 (by decide))) hlen,zAa _ _,rfl⟩)
 ·intro us w' hC' hd;exact wpList_last rfl (assign_val rfl ((fill_tmp (by rfl) (by rw[hsz];decide)).trans (hd 9 (by decide)))) (hQ us w' hC')
def isIf (g b:Bool) (v:Value):Value->World->Prop:=fun x _=>g=b->x=v
theorem zDb (g b:Bool) (v:Value):zFD (isIf g b v):=fun _ _ _ _ h=>h
section
variable {P:Program} {a:Act} {o:Oper} {w:World}
theorem zCP {t:TypeId} {x:Operand} {k:Nat} {p v:Value} (ho:o.op=.fieldAddr t x k) (hx:a.eval x=p) (h:(Instr.fieldAt t p k).run P w=.ok v w):(execOp a.eval o).run P w=.ok (.value v) w:=by
 simp[execOp,ho,hx,h,Result.andThen]
theorem zHU {t r:TypeId} {x y:Operand} {k:IntKind} {n m:Int} (ho:o.op=.binOp .gtr t x y r) (hx:a.eval x=.int k n) (hy:a.eval y=.int k m):(execOp a.eval o).run P w=.ok (.value (.bool (decide (m<n)))) w:=by
 simp only[execOp,ho,hx,hy];simp[go_sem,eqGuard,Sem.run_pure,binOp]
end
section
variable {P:Program} {a:Act} {o:Oper} {w:World}
theorem neqstr2_val {t r:TypeId} {x y:Operand} {s s':ByteArray} (ho:o.op=.binOp .neq t x y r) (hx:a.eval x=.string s) (hy:a.eval y=.string s'):(execOp a.eval o).run P w=.ok (.value (.bool (!(s.toList==s'.toList)))) w:=by
 simp only[execOp,ho,hx,hy];simp[eqGuard,Sem.run_pure,binOp,Op.stringOp,bne]
theorem zHg {t:TypeId} {x lo hi:Operand} {p u v z:Value} (ho:o.op=.slice t x (some lo) (some hi) none) (hx:a.eval x=p) (hl:a.eval lo=u) (hh:a.eval hi=v) (h:(Instr.sliceAt t p (some u) (some v) none).run P w=.ok z w) :
  (execOp a.eval o).run P w=.ok (.value z) w:=by
 simp only[execOp,ho,hx,hl,hh,Option.map_some,Option.map_none];simp[h,Sem.run_bind,Result.andThen]
end
noncomputable def nx_regionC:Code:=zBn Tryz.f92.body 20
theorem zCu (a:Act) (v u:Value) (n m:Int) (S S2:ByteArray) (B:List Nat) (W w:World) (Q:Exit->Act->World->Prop) (hsz:a.tmps.size=81)
  (h0:a.eval (.tmp 0)=v)
  (h6:a.eval (.tmp 6)=.int .i64 n)
  (h7:a.eval (.tmp 7)=.int .i64 m)
  (hF:∀ w,W.grownBy w none->Calls prog 129 #[.int .i64 n] w fun e w'=>∃ v,e=.returned v/\w.grownBy w' none/\isB B v w')
  (hSa:∀ w,W.grownBy w none->(convert 33 9 u).run prog w=.ok (.string S2) w)
  (hSu:∀ w x,Bytes w x B->(convert 33 9 x).run prog w=.ok (.string S) w)
  (hSl:∀ w,(Instr.sliceAt 33 v (some (.int .i64 1)) (some (.int .i64 m)) none).run prog w=.ok u w)
  (hw:W.grownBy { w with drawn:=w.drawn+1 } none)
  (hQ:∀ us w',W.grownBy w' none->Q .normal ((fill a [57,58,59,60,61,62,63] us).put (some 64) (.bool (!(S.toList==S2.toList)))) w'):nx_regionC.wp prog Q a w:=by
 have hst:zA9 [isV (.int .i64 n),isB B,isV (.string S),isV (v),isV (.int .i64 m),isV (u),isV (.string S2)]:=⟨zAj _,zIj _,zAj _,zAj _,zAj _,zAj _,zAj _,trivial⟩
 conv=>arg 2;whnf
 refine zAG 7 [57,58,59,60,61,62,63] (fun w'=>W.grownBy w' none) (fun w w'=>w.grownBy w' none) (flF [isV (.int .i64 n),isB B,isV (.string S),isV (v),isV (.int .i64 m),isV (u),isV (.string S2)]) (by kernel_rfl) (by kernel_rfl) (fun _ _ h k=>zAb k h) (fun j x w w' hg h=>zA3 hst j x w w' hg h) hw ?_ ?_
 ·refine⟨?_,?_,?_,?_,?_,?_,?_,trivial⟩
  ·exact zAg (fun us w hC hd=>zAf rfl) (fun us w hC hd=>⟨_,w,zAz rfl ((fill_old (by rfl)).trans h6),zAa _ _,rfl⟩)
  ·refine zA7 129 (fun us=>#[us 57]) (fun us w hC hd=>zAf rfl) (fun us w=>by rw[zAX rfl (fun _ _=>by simp[go_sem]),List.map_toArray,List.map_cons,List.map_nil,fill_tmp (by rfl) (by rw[hsz];decide)]) (fun us w hC' hd=>?_);rw[show us 57=.int .i64 n from hd 0 (by decide)];exact hF w hC'
  ·exact zAg (fun us w hC hd=>zAf rfl) (fun us w hC hd=>⟨_,w,zB9 rfl (fill_tmp (by rfl) (by rw[hsz];decide)) (hSu w _ (hd 1 (by decide))),zAa _ _,rfl⟩)
  ·exact zAg (fun us w hC hd=>zAf rfl) (fun us w hC hd=>⟨_,w,zAz rfl ((fill_old (by rfl)).trans h0),zAa _ _,rfl⟩)
  ·exact zAg (fun us w hC hd=>zAf rfl) (fun us w hC hd=>⟨_,w,zAz rfl ((fill_old (by rfl)).trans h7),zAa _ _,rfl⟩)
  ·exact zAg (fun us w hC hd=>zAf rfl) (fun us w hC hd=>⟨_,w,zHg rfl ((fill_tmp (by rfl) (by rw[hsz];decide)).trans (hd 3 (by decide))) rfl ((fill_tmp (by rfl) (by rw[hsz];decide)).trans (hd 4 (by decide))) (hSl w),zAa _ _,rfl⟩)
  ·exact zAg (fun us w hC hd=>zAf rfl) (fun us w hC hd=>⟨_,w,zB9 rfl ((fill_tmp (by rfl) (by rw[hsz];decide)).trans (hd 5 (by decide))) (hSa w hC),zAa _ _,rfl⟩)
 ·intro us w' hC' hd;exact wpList_last rfl (neqstr2_val rfl ((fill_tmp (by rfl) (by rw[hsz];decide)).trans (hd 2 (by decide))) ((fill_tmp (by rfl) (by rw[hsz];decide)).trans (hd 6 (by decide)))) (hQ us w' hC')
theorem rfield_val {P:Program} {a:Act} {o:Oper} {w:World} {t:TypeId} {x:Operand} {k:Nat} {p v:Value} (ho:o.op=.fieldAddr t x k) (hx:a.eval x=p) (h:(Instr.fieldAt t p k).run P w=.ok v w):(execOp a.eval o).run P w=.ok (.value v) w:=by
 simp[execOp,ho,hx,h,Result.andThen]
theorem zMh {o:Oper} {a:Act} {x:Operand} (w:World) (p:Addr) (ho:o.op=.nilCheck x) (hx:a.eval x=.pointer (some p)):(execOp a.eval o).run prog w=.ok (.value (.pointer (some p))) w:=by
 simp only[execOp,ho,hx];simp[go_sem,Result.andThen]
theorem zLu (m:Nat) (w:World):(Instr.fieldAt 83 (.pointer (some ⟨m,0,none⟩)) 1).run prog w=.ok (.pointer (some ⟨m,1,none⟩)) w:=by simp[go_sem]
theorem zMi {g o:Nat} {w:World} {x:Int} (h:w.cell? ⟨g,o,none⟩=some (.int .i64 x)):(Instr.loadAt 3 (.pointer (some ⟨g,o,none⟩))).run prog w=.ok (.int .i64 x) w:=by simp[go_sem,h]
abbrev dV (d:Cal.DI):Value:=.agg #[.int .i64 d.Y,.int .i64 d.M,.int .i64 d.D,.int .i64 d.h,.int .i64 d.mi,.int .i64 d.s]
theorem zBI {P:Program} {a:Act} {o:Oper} {w:World} {t:TypeId} {x:Operand} {k:Nat} {p v:Value} (ho:o.op=.fieldAddr t x k) (hx:a.eval x=p) (h:(Instr.fieldAt t p k).run P w=.ok v w):(execOp a.eval o).run P w=.ok (.value v) w:=by
 simp[execOp,ho,hx,h,Result.andThen]
theorem zJw {P:Program} {a:Act} {o:Oper} {w w':World} {s d:TypeId} {x:Operand} {p v:Value} (ho:o.op=.convert s d x) (hx:a.eval x=p) (h:(convert s d p).run P w=.ok v w'):(execOp a.eval o).run P w=.ok (.value v) w':=by
 simp[execOp,ho,hx,h,Result.andThen]
def isBw (l:List Nat):Value->World->Prop:=fun x w=>Bytes w x l/\Whole0 x
theorem zDR (l:List Nat):zFD (isBw l):=fun _ _ _ hg h=>⟨h.1.grown hg,h.2⟩
theorem zLW (w:World) (e:TypeId) (s:ByteArray):isBw (strL s) (.slice (some ⟨w.heap.size,0,none⟩) s.size (grownCap w s.size 0 e)) (Lib.bytesWorld w e s):=by
 refine⟨⟨strL_lt s,some ⟨w.heap.size,0,none⟩,w.heap.size,0,_,by rw[zAx],by rw[zAx];exact grownCap_ge _ _ _ _,fun _=>⟨rfl,by rw[Lib.bytesWorld_size];omega⟩,fun j hj=>?_⟩,Whole0.some _ _ _⟩;rw[Nat.zero_add,Lib.bytesWorld_cell w e s j (by rw[<-zAx];exact hj)]
 congr 3
 simp[strL];cases s.data[j]? <;> rfl
noncomputable def bo_regionC:Code:=zBn Tryz.f60.body 13
theorem zJF (a:Act) (g:Nat) (S:ByteArray) (n:Int) (k:Nat) (W w:World) (Q:Exit->Act->World->Prop) (hsz:a.tmps.size=77)
  (h1:a.eval (.tmp 1)=.pointer (some ⟨g,0,none⟩))
  (hF4:∀ w,(Instr.fieldAt 63 (.pointer (some ⟨g,0,none⟩)) 4).run prog w=.ok (.pointer (some ⟨g,4,none⟩)) w)
  (hF1:∀ w,(Instr.fieldAt 63 (.pointer (some ⟨g,0,none⟩)) 1).run prog w=.ok (.pointer (some ⟨g,1,none⟩)) w)
  (hL4:∀ w,W.grownBy w none->(Instr.loadAt 9 (.pointer (some ⟨g,4,none⟩))).run prog w=.ok (.string S) w)
  (hL1:∀ w,W.grownBy w none->(Instr.loadAt 3 (.pointer (some ⟨g,1,none⟩))).run prog w=.ok (.int .i64 n) w)
  (hA:∀ w,Calls prog 95 #[.string S,.int .i64 n] w fun e w'=>e=.returned (.int .i64 (k:Int))/\w'=w)
  (hw:W.grownBy { w with drawn:=w.drawn+1 } none)
  (hQ:∀ us w',W.grownBy w' none->(isV (.int .i64 12)) (us 2) w'->(isBw (strL S)) (us 3) w'->Q .normal ((fill a [31,32,33,34,35,36,37,38,2,3] us).put (some 4) (.int .i64 (k:Int))) w'):bo_regionC.wp prog Q a w:=by
 have hst:zA9 [isV (.pointer (some ⟨g,4,none⟩)),isV (.string S),isBw (strL S),isV (.pointer (some ⟨g,4,none⟩)),isV (.string S),isV (.pointer (some ⟨g,1,none⟩)),isV (.int .i64 n),isV (.int .i64 (k:Int)),isV (.int .i64 12),isBw (strL S)]:=⟨zAj _,zAj _,zDR _,zAj _,zAj _,zAj _,zAj _,zAj _,zAj _,zDR _,trivial⟩
 conv=>arg 2;whnf
 refine zAG 10 [31,32,33,34,35,36,37,38,2,3] (fun w'=>W.grownBy w' none) (fun w w'=>w.grownBy w' none) (flF [isV (.pointer (some ⟨g,4,none⟩)),isV (.string S),isBw (strL S),isV (.pointer (some ⟨g,4,none⟩)),isV (.string S),isV (.pointer (some ⟨g,1,none⟩)),isV (.int .i64 n),isV (.int .i64 (k:Int)),isV (.int .i64 12),isBw (strL S)]) (by kernel_rfl) (by kernel_rfl) (fun _ _ h k=>zAb k h) (fun j x w w' hg h=>zA3 hst j x w w' hg h) hw ?_ ?_
 ·refine⟨?_,?_,?_,?_,?_,?_,?_,?_,?_,?_,trivial⟩
  ·exact zAg (fun us w hC hd=>zAf rfl) (fun us w hC hd=>⟨_,w,zBI rfl ((fill_old (by rfl)).trans h1) (hF4 w),zAa _ _,rfl⟩)
  ·exact zAg (fun us w hC hd=>zAf rfl) (fun us w hC hd=>⟨_,w,zAQ rfl ((fill_tmp (by rfl) (by rw[hsz];decide)).trans (hd 0 (by decide))) (hL4 w hC),zAa _ _,rfl⟩)
  ·exact zAg (fun us w hC hd=>zAf rfl) (fun us w hC hd=>⟨_,_,zJw rfl ((fill_tmp (by rfl) (by rw[hsz];decide)).trans (hd 1 (by decide))) (Lib.run_convert_string_bytes w _ _ _ S underlying9 underlying33 underlying5),zC1 w _ S,zLW w _ S⟩)
  ·exact zAg (fun us w hC hd=>zAf rfl) (fun us w hC hd=>⟨_,w,zBI rfl ((fill_old (by rfl)).trans h1) (hF4 w),zAa _ _,rfl⟩)
  ·exact zAg (fun us w hC hd=>zAf rfl) (fun us w hC hd=>⟨_,w,zAQ rfl ((fill_tmp (by rfl) (by rw[hsz];decide)).trans (hd 3 (by decide))) (hL4 w hC),zAa _ _,rfl⟩)
  ·exact zAg (fun us w hC hd=>zAf rfl) (fun us w hC hd=>⟨_,w,zBI rfl ((fill_old (by rfl)).trans h1) (hF1 w),zAa _ _,rfl⟩)
  ·exact zAg (fun us w hC hd=>zAf rfl) (fun us w hC hd=>⟨_,w,zAQ rfl ((fill_tmp (by rfl) (by rw[hsz];decide)).trans (hd 5 (by decide))) (hL1 w hC),zAa _ _,rfl⟩)
  ·refine zA7 95 (fun us=>#[us 35,us 37]) (fun us w hC hd=>zAf rfl) (fun us w=>by rw[zAX rfl (fun _ _=>by simp[go_sem]),List.map_toArray,List.map_cons,List.map_cons,List.map_nil,fill_tmp (by rfl) (by rw[hsz];decide),fill_tmp (by rfl) (by rw[hsz];decide)]) (fun us w hC' hd=>?_);rw[show us 35=.string S from hd 4 (by decide)];rw[show us 37=.int .i64 n from hd 6 (by decide)];exact(hA w).mono (by rintro e w' ⟨rfl,h⟩;rw[h];exact⟨_,rfl,zAa _ _,rfl⟩)
  ·exact zAg (fun us w hC hd=>zAf rfl) (fun us w hC hd=>⟨_,w,assign_val rfl rfl,zAa _ _,rfl⟩)
  ·exact zAg (fun us w hC hd=>zAf rfl) (fun us w hC hd=>⟨_,w,assign_val rfl (fill_tmp (by rfl) (by rw[hsz];decide)),zAa _ _,hd 2 (by decide)⟩)
 ·intro us w' hC' hd;exact wpList_last rfl (assign_val rfl ((fill_tmp (by rfl) (by rw[hsz];decide)).trans (hd 7 (by decide)))) (hQ us w' hC' (hd 8 (by decide)) (hd 9 (by decide)))
section
variable {P:Program}
theorem neqAgg_val {o:Oper} {a:Act} {w:World} {t r:TypeId} {x y:Operand} {u:Value} (ho:o.op=.binOp .neq t x y r) (hx:a.eval x=u) (hy:a.eval y=u) (h:∀ w,(do eqGuard .neq t x y u u;binOp .neq t u u:Sem Value).run P w=.ok (.bool false) w):(execOp a.eval o).run P w=.ok (.value (.bool false)) w:=by
 have h':=h w;simp only[execOp,ho,hx,hy];rw[Sem.run_bind,h'];simp[Result.andThen,Sem.run_pure]
end
theorem zMp (k:Int) (sp nm:ByteArray) (x y:Operand) (w:World):(do eqGuard .neq 23 x y (.agg #[.int .i64 k,.string sp,.string nm]) (.agg #[.int .i64 k,.string sp,.string nm]);binOp .neq 23 (.agg #[.int .i64 k,.string sp,.string nm]) (.agg #[.int .i64 k,.string sp,.string nm]):Sem Value).run prog w=.ok (.bool false) w:=by
 simp[go_sem,eqGuard]
noncomputable def nw_region37C:Code:=zBn Tryz.f5.body 37
theorem zGd (a:Act) (b1 b2 b16 b18:Nat) (n:Int) (E:Nat) (EV:Value) (DC:Array Value) (W w:World) (Q:Exit->Act->World->Prop) (hsz:a.tmps.size=152)
  (h16:a.eval (.tmp 16)=.pointer (some ⟨b16,0,none⟩))
  (h18:a.eval (.tmp 18)=.pointer (some ⟨b18,0,none⟩))
  (h14:a.eval (.tmp 14)=.pointer (some ⟨b1,0,none⟩))
  (h15:a.eval (.tmp 15)=.pointer (some ⟨b2,0,none⟩))
  (h17:a.eval (.tmp 17)=.int .i64 n)
  (h19:a.eval (.tmp 19)=.int .i64 n)
  (hE1:∀ w,W.grownBy w none->Calls prog 39 #[.pointer (some ⟨b1,0,none⟩)] w fun e w'=>∃ v,e=.returned v/\w.grownBy w' none/\isV (EV) v w')
  (hN1:∀ w,W.grownBy w none->Calls prog 13 #[EV] w fun e w'=>∃ v,e=.returned v/\w.grownBy w' none/\isV (.int .i64 (E:Nat)) v w')
  (hc:∀ w,W.grownBy w none->w.cell? ⟨b2,1,none⟩=some (.int .i64 (E:Nat)))
  (h16r:∀ w,W.grownBy w none->w.heap[b16]?=some (.cells DC 23 (0,0)))
  (h18r:∀ w,W.grownBy w none->w.heap[b18]?=some (.cells DC 23 (0,0)))
  (hI1:(prog.info? 23).map (·.size)=some DC.size)
  (hEq:∀ x y w,(do eqGuard .neq 23 x y (.agg DC) (.agg DC);binOp .neq 23 (.agg DC) (.agg DC):Sem Value).run prog w=.ok (.bool false) w)
  (hw:W.grownBy { w with drawn:=w.drawn+1 } none)
  (hQ:∀ us w',W.grownBy w' none->Q .normal ((fill a [122,123,124,125,126,127,128,129,130,131,132,133,134,135,136,137,138] us).put (some 139) (.bool false)) w'):nw_region37C.wp prog Q a w:=by
 have hst:zA9 [isV (.agg DC),isV (.agg DC),isV (.bool false),isV (.bool false),isV (.int .i64 n),isV (.int .i64 n),isV (.bool false),isV (.bool false),isV (.bool false),isV (.pointer (some ⟨b1,0,none⟩)),isV (EV),isV (.int .i64 (E:Nat)),isV (.pointer (some ⟨b2,0,none⟩)),isV (.pointer (some ⟨b2,0,none⟩)),isV (.pointer (some ⟨b2,1,none⟩)),isV (.int .i64 (E:Nat)),isV (.bool false)]:=⟨zAj _,zAj _,zAj _,zAj _,zAj _,zAj _,zAj _,zAj _,zAj _,zAj _,zAj _,zAj _,zAj _,zAj _,zAj _,zAj _,zAj _,trivial⟩
 conv=>arg 2;whnf
 refine zAG 17 [122,123,124,125,126,127,128,129,130,131,132,133,134,135,136,137,138] (fun w'=>W.grownBy w' none) (fun w w'=>w.grownBy w' none) (flF [isV (.agg DC),isV (.agg DC),isV (.bool false),isV (.bool false),isV (.int .i64 n),isV (.int .i64 n),isV (.bool false),isV (.bool false),isV (.bool false),isV (.pointer (some ⟨b1,0,none⟩)),isV (EV),isV (.int .i64 (E:Nat)),isV (.pointer (some ⟨b2,0,none⟩)),isV (.pointer (some ⟨b2,0,none⟩)),isV (.pointer (some ⟨b2,1,none⟩)),isV (.int .i64 (E:Nat)),isV (.bool false)]) (by kernel_rfl) (by kernel_rfl) (fun _ _ h k=>zAb k h) (fun j x w w' hg h=>zA3 hst j x w w' hg h) hw ?_ ?_
 ·refine⟨?_,?_,?_,?_,?_,?_,?_,?_,?_,?_,?_,?_,?_,?_,?_,?_,?_,trivial⟩
  ·exact zAg (fun us w hC hd=>zAf rfl) (fun us w hC hd=>⟨_,w,zGQ rfl ((fill_old (by rfl)).trans h16) (h16r w hC) underlying23 rfl hI1,zAa _ _,rfl⟩)
  ·exact zAg (fun us w hC hd=>zAf rfl) (fun us w hC hd=>⟨_,w,zGQ rfl ((fill_old (by rfl)).trans h18) (h18r w hC) underlying23 rfl hI1,zAa _ _,rfl⟩)
  ·exact zAg (fun us w hC hd=>zAf rfl) (fun us w hC hd=>⟨_,w,neqAgg_val rfl ((fill_tmp (by rfl) (by rw[hsz];decide)).trans (hd 0 (by decide))) ((fill_tmp (by rfl) (by rw[hsz];decide)).trans (hd 1 (by decide))) (hEq _ _),zAa _ _,rfl⟩)
  ·exact zAg (fun us w hC hd=>zAf rfl) (fun us w hC hd=>⟨_,w,zAz rfl ((fill_tmp (by rfl) (by rw[hsz];decide)).trans (hd 2 (by decide))),zAa _ _,rfl⟩)
  ·exact zAg (fun us w hC hd=>zAT (d:=125) (b:=false) rfl rfl (by rfl) (by rw[hsz];decide) (hd 3 (by decide))) (fun us w hC hd=>⟨_,w,zAz rfl ((fill_old (by rfl)).trans h17),zAa _ _,rfl⟩)
  ·exact zAg (fun us w hC hd=>zAT (d:=125) (b:=false) rfl rfl (by rfl) (by rw[hsz];decide) (hd 3 (by decide))) (fun us w hC hd=>⟨_,w,zAz rfl ((fill_old (by rfl)).trans h19),zAa _ _,rfl⟩)
  ·exact zAg (fun us w hC hd=>zAT (d:=125) (b:=false) rfl rfl (by rfl) (by rw[hsz];decide) (hd 3 (by decide))) (fun us w hC hd=>⟨_,w,zDW rfl ((fill_tmp (by rfl) (by rw[hsz];decide)).trans (hd 4 (by decide))) ((fill_tmp (by rfl) (by rw[hsz];decide)).trans (hd 5 (by decide))),zAa _ _,rfl⟩)
  ·exact zAg (fun us w hC hd=>zAf rfl) (fun us w hC hd=>⟨_,w,pick_false rfl ((fill_tmp (by rfl) (by rw[hsz];decide)).trans (hd 3 (by decide))) ((fill_tmp (by rfl) (by rw[hsz];decide)).trans (hd 6 (by decide))),zAa _ _,rfl⟩)
  ·exact zAg (fun us w hC hd=>zAf rfl) (fun us w hC hd=>⟨_,w,zAz rfl ((fill_tmp (by rfl) (by rw[hsz];decide)).trans (hd 7 (by decide))),zAa _ _,rfl⟩)
  ·exact zAg (fun us w hC hd=>zAT (d:=130) (b:=false) rfl rfl (by rfl) (by rw[hsz];decide) (hd 8 (by decide))) (fun us w hC hd=>⟨_,w,zAz rfl ((fill_old (by rfl)).trans h14),zAa _ _,rfl⟩)
  ·refine zA7 39 (fun us=>#[us 131]) (fun us w hC hd=>zAT (d:=130) (b:=false) rfl rfl (by rfl) (by rw[hsz];decide) (hd 8 (by decide))) (fun us w=>by rw[zAX rfl (fun _ _=>by simp[go_sem]),List.map_toArray,List.map_cons,List.map_nil,fill_tmp (by rfl) (by rw[hsz];decide)]) (fun us w hC' hd=>?_);rw[show us 131=.pointer (some ⟨b1,0,none⟩)from hd 9 (by decide)];exact hE1 w hC'
  ·refine zA7 13 (fun us=>#[us 132]) (fun us w hC hd=>zAT (d:=130) (b:=false) rfl rfl (by rfl) (by rw[hsz];decide) (hd 8 (by decide))) (fun us w=>by rw[zAX rfl (fun _ _=>by simp[go_sem]),List.map_toArray,List.map_cons,List.map_nil,fill_tmp (by rfl) (by rw[hsz];decide)]) (fun us w hC' hd=>?_);rw[show us 132=EV from hd 10 (by decide)];exact hN1 w hC'
  ·exact zAg (fun us w hC hd=>zAT (d:=130) (b:=false) rfl rfl (by rfl) (by rw[hsz];decide) (hd 8 (by decide))) (fun us w hC hd=>⟨_,w,zAz rfl ((fill_old (by rfl)).trans h15),zAa _ _,rfl⟩)
  ·exact zAg (fun us w hC hd=>zAT (d:=130) (b:=false) rfl rfl (by rfl) (by rw[hsz];decide) (hd 8 (by decide))) (fun us w hC hd=>⟨_,w,zMh w _ rfl ((fill_tmp (by rfl) (by rw[hsz];decide)).trans (hd 12 (by decide))),zAa _ _,rfl⟩)
  ·exact zAg (fun us w hC hd=>zAT (d:=130) (b:=false) rfl rfl (by rfl) (by rw[hsz];decide) (hd 8 (by decide))) (fun us w hC hd=>⟨_,w,rfield_val rfl ((fill_tmp (by rfl) (by rw[hsz];decide)).trans (hd 13 (by decide))) (zLu b2 w),zAa _ _,rfl⟩)
  ·exact zAg (fun us w hC hd=>zAT (d:=130) (b:=false) rfl rfl (by rfl) (by rw[hsz];decide) (hd 8 (by decide))) (fun us w hC hd=>⟨_,w,zAQ rfl ((fill_tmp (by rfl) (by rw[hsz];decide)).trans (hd 14 (by decide))) (zMi (hc w hC)),zAa _ _,rfl⟩)
  ·exact zAg (fun us w hC hd=>zAT (d:=130) (b:=false) rfl rfl (by rfl) (by rw[hsz];decide) (hd 8 (by decide))) (fun us w hC hd=>⟨_,w,zDW rfl ((fill_tmp (by rfl) (by rw[hsz];decide)).trans (hd 11 (by decide))) ((fill_tmp (by rfl) (by rw[hsz];decide)).trans (hd 15 (by decide))),zAa _ _,rfl⟩)
 ·intro us w' hC' hd;exact wpList_last rfl (pick_false rfl ((fill_tmp (by rfl) (by rw[hsz];decide)).trans (hd 8 (by decide))) ((fill_tmp (by rfl) (by rw[hsz];decide)).trans (hd 16 (by decide)))) (hQ us w' hC')
abbrev dateCells (Y M D h mi s:Nat):Array Value:=#[.int .i64 (Y:Int),.int .i64 (M:Int),.int .i64 (D:Int),.int .i64 (h:Int),.int .i64 (mi:Int),.int .i64 (s:Int)]
structure OfS (w w':World) (Y M D h mi s:Nat):Prop where
 grown:w.grownBy w' none
 res:w'.heap[w.heap.size]?=some (.cells #[.int .i64 0,.int .i64 0,.int .i64 0,.int .i64 0,.int .i64 0,.int .i64 0] 156 (0,0))
 blk:w'.heap[w.heap.size+1]?=some (.cells (dateCells Y M D h mi s) 156 (0,0))
theorem OfS.more {w w1 w2:World} {Y M D h mi s:Nat} (o:OfS w w1 Y M D h mi s) (hg:w1.grownBy w2 none):OfS w w2 Y M D h mi s :=
 ⟨zAb o.grown hg,(hg.block _ (zAi o.res) (by simp)).trans o.res,(hg.block _ (zAi o.blk) (by simp)).trans o.blk⟩
theorem OfS.put {w w1:World} {Y M D h mi s:Nat} (o:OfS w w1 Y M D h mi s) (k:Nat) (z:Int) (cs:Array Value) (hc:(dateCells Y M D h mi s).setIfInBounds k (.int .i64 z)=cs) :
  w.grownBy (w1.setCell ⟨w.heap.size+1,k,none⟩ (.int .i64 z)) none/\(w1.setCell ⟨w.heap.size+1,k,none⟩ (.int .i64 z)).heap[w.heap.size]?=some (.cells #[.int .i64 0,.int .i64 0,.int .i64 0,.int .i64 0,.int .i64 0,.int .i64 0] 156 (0,0)) /\
   (w1.setCell ⟨w.heap.size+1,k,none⟩ (.int .i64 z)).heap[w.heap.size+1]?=some (.cells cs 156 (0,0)):=by
 refine⟨zAq o.grown (.inl (by show w.heap.size<=w.heap.size+1;omega)) _,?_,?_⟩
 ·rw[Below.heap_setCell _ _ _ _ (by show _≠w.heap.size+1;omega)];exact o.res
 ·rw[heap_setCell_same w1 (w.heap.size+1) k _ 156 _ o.blk,hc]
theorem OfS.year {w w1:World} {Y M D h mi s:Nat} (o:OfS w w1 Y M D h mi s) (z:Int) (Y':Nat) (hz:z=(Y':Int)):OfS w (w1.setCell ⟨w.heap.size+1,0,none⟩ (.int .i64 z)) Y' M D h mi s:=by
 subst hz;obtain⟨a,b,c⟩:=o.put 0 (Y':Int) (dateCells Y' M D h mi s) rfl;exact⟨a,b,c⟩
theorem OfS.month {w w1:World} {Y M D h mi s:Nat} (o:OfS w w1 Y M D h mi s) (z:Int) (M':Nat) (hz:z=(M':Int)):OfS w (w1.setCell ⟨w.heap.size+1,1,none⟩ (.int .i64 z)) Y M' D h mi s:=by
 subst hz;obtain⟨a,b,c⟩:=o.put 1 (M':Int) (dateCells Y M' D h mi s) rfl;exact⟨a,b,c⟩
theorem OfS.day {w w1:World} {Y M D h mi s:Nat} (o:OfS w w1 Y M D h mi s) (z:Int) (D':Nat) (hz:z=(D':Int)):OfS w (w1.setCell ⟨w.heap.size+1,2,none⟩ (.int .i64 z)) Y M D' h mi s:=by
 subst hz;obtain⟨a,b,c⟩:=o.put 2 (D':Int) (dateCells Y M D' h mi s) rfl;exact⟨a,b,c⟩
theorem zMO {t k m n:Nat} (ht:t<=253402300799) (hk:k<8030) (hm:1<=m/\m<=12) (hn:n<Cal.days (1970+k) m) (h:t/86400=Cal.bef k+Cal.ms (1970+k) (m-1)+n) :
  Cal.of t=⟨1970+k,m,n+1,t/3600%24,t/60%60,t%60⟩:=by
 have hr:Cal.Right ⟨1970+k,m,n+1,t/3600%24,t/60%60,t%60⟩:=⟨⟨by simp only;omega,by simp only;omega⟩,hm,⟨by simp only;omega,by simp only;omega⟩,by simp only;omega,by simp only;omega,by simp only;omega⟩;have hs:Cal.sec ⟨1970+k,m,n+1,t/3600%24,t/60%60,t%60⟩=t:=by
  unfold Cal.sec Cal.dayOf Cal.clock;simp only[Nat.add_sub_cancel,Nat.add_sub_cancel_left];omega
 have:=Cal.of_sec hr;rw[hs]at this;exact this
theorem zIC (t:Nat) (ht:t<=253402300799) (w:World):Calls prog 99 #[.int .i64 (t:Int)] w fun e w'=>e=.returned (dV (Cal.of t).toI)/\w.grownBy w' none:=by
 have HL:=hid (fun(j:Nat) W=>by
  have:=zDr ((j:Nat):Int) W;rw[Cal.leapI_nat]at this;exact this)
 have HDa:=hid (fun(y j:Nat) W=>by
  have:=zF3 ((y:Nat):Int) ((j:Nat):Int) W;rw[Cal.daysI_nat]at this;exact this)
 obtain⟨hq,hh⟩:∃ h,h=t/3600%24:=⟨_,rfl⟩
 obtain⟨mq,hmi⟩:∃ h,h=t/60%60:=⟨_,rfl⟩
 obtain⟨sq,hs⟩:∃ h,h=t%60:=⟨_,rfl⟩
 obtain⟨n0,hn0⟩:∃ n,n=t/86400:=⟨_,rfl⟩
 have hn0b:n0<=2932896:=by omega
 have HOf:Hid (∀ k m n:Nat,k<8030->(1<=m/\m<=12)->n<Cal.days (1970+k) m->n0=Cal.bef k+Cal.ms (1970+k) (m-1)+n->Cal.of t=⟨1970+k,m,n+1,hq,mq,sq⟩):=hid (fun k m n hk hm hn he=>by
  rw[hh,hmi,hs];exact zMO ht hk hm hn (by rw[<-hn0];exact he))
 have F0:Hid (OfS w ((w.alloc (.cells #[.int .i64 0,.int .i64 0,.int .i64 0,.int .i64 0,.int .i64 0,.int .i64 0] 156)).alloc (.cells #[.int .i64 1970,.int .i64 1,.int .i64 0,.int .i64 ((t:Int)/3600%24),.int .i64 ((t:Int)/60%60),.int .i64 ((t:Int)%60)] 156)) 1970 1 0 hq mq sq):=hid (by
  refine⟨zAc (World.grownBy_alloc _ _ _) _,(Below.heap_alloc _ _ _ (by simp)).trans (alloc_at w _),?_⟩;have:=alloc_at (w.alloc (.cells #[.int .i64 0,.int .i64 0,.int .i64 0,.int .i64 0,.int .i64 0,.int .i64 0] 156)) (.cells #[.int .i64 1970,.int .i64 1,.int .i64 0,.int .i64 ((t:Int)/3600%24),.int .i64 ((t:Int)/60%60),.int .i64 ((t:Int)%60)] 156);rw[World.size_alloc]at this;rw[this,hh,hmi,hs];rfl)
 have hq:((t:Int)/86400)=((n0:Nat):Int):=by omega
 have HBe:Hid (∀ k,Cal.bef (k+1)=Cal.bef k+Cal.yearLen (1970+k)):=hid (fun k=>rfl);have HB8:=hid Cal.bef_8030;have HBm:=hid (fun a b h=>Cal.bef_mono (a:=a) (b:=b) h);clear hh hmi hs hn0;go_enter func99,ntmps99
 go_wp2
 clear hq;go_loopw [4] (fun x wr=>∃ k n:Nat,k<8030/\x=.int .i64 ((n:Nat):Int)/\n0=Cal.bef k+n/\OfS w wr (1970+k) 1 0 hq mq sq) (fun x _=>(intOf x).toNat)
 case atStart=>exact⟨0,n0,by omega,rfl,by simp[Cal.bef],F0.out⟩
 case round =>
  obtain⟨k,n,hk,rfl,hn,ho⟩:=hrel;have HO:=hid ho;have b0:=cell_blk ho.blk 0 rfl;have b1:=zAh ho.blk 0;obtain⟨y,hy⟩:∃ y,y=1970+k:=⟨_,rfl⟩
  rw[<-hy]at b0 HO;have HY:=hid hy;have HLy:=hid (HL.out y);have hnb:n<=2932896:=by omega
  have HN:=hid hn;have hyb:y<=10000:=by omega
  clear ho hn;have HYl:Hid (Cal.yearLen y=if Cal.leap y=true then 366 else 365):=hid rfl;obtain⟨L,hL⟩:∃ L,L=Cal.yearLen y:=⟨_,rfl⟩
  have HL2:Hid (Cal.bef (k+1)=Cal.bef k+L):=hid (by rw[HBe.out,hL,hy]);have HLL:=hid hL;clear hy hL;cases hl:Cal.leap y with
  |true =>
   rw[hl]at HLy;have HL6:Hid (L=366):=hid (by rw[HLL.out,HYl.out,hl];rfl);clear hl;by_cases hlt:n<366
   ·have HK:=hid hk;go_wp2_with (go_at_call 136;refine(HLy.out _).mono ?_;rintro e w1 ⟨rfl,hw⟩;have hw2:=hw.symm;subst hw2;clear hw)
    have HN1:Hid (n+Cal.ms y 0<Cal.yearLen y):=hid (by rw[<-HLL.out,HL6.out];exact hlt);have HN0:Hid (n0=Cal.bef k+Cal.ms y 0+n):=hid (by rw[HN.out];rfl);simp only[decide_eq_true (show(n:Int)<366 by omega)];clear b0 b1 hlt;go_loopw [4] (fun x wr=>∃ m n:Nat,m<12/\x=.int .i64 ((n:Nat):Int)/\n<=400/\n+Cal.ms y m<Cal.yearLen y/\n0=Cal.bef k+Cal.ms y m+n/\OfS w wr y (m+1) 0 hq mq sq) (fun x _=>(intOf x).toNat)
    case atStart=>exact⟨0,n,by omega,rfl,by have:=HN1.out;have:=(Cal.yearLen_le y).2;omega,HN1.out,HN0.out,HO.out⟩
    case round =>
     obtain⟨m,n,hm,rfl,hn4,hny,hn,ho⟩:=hrel;have HO:=hid ho;have HMS:Hid (Cal.ms y (m+1)=Cal.ms y m+Cal.days y (m+1)):=hid rfl;have HM12:=hid (Cal.ms12 y);have HNy:=hid hny;have HN:=hid hn;obtain⟨M,hM⟩:∃ M,M=m+1:=⟨_,rfl⟩
     rw[<-hM]at HO HMS;have HM:=hid hM;have p0:=cell_blk HO.out.blk 0 rfl;have p1:=cell_blk HO.out.blk 1 rfl;have hdp:=Cal.days_pos (y:=y) (m:=M) (by omega) (by omega);have HDy:=hid (fun W=>HDa.out y M W);have hM12:M<=12:=by omega
     obtain⟨dd,hdd⟩:∃ dd,dd=Cal.days y M:=⟨_,rfl⟩
     rw[<-hdd]at hdp HDy HMS;have HDD:=hid hdd;clear ho hny hn hM hdd;by_cases hnd:n<dd
     ·have HEnd:=hid (HOf.out k M n HK.out ⟨by have:=HM.out;omega,hM12⟩ (by rw[<-HY.out,<-HDD.out];exact hnd) (by rw[<-HY.out,HN.out,HM.out,Nat.add_sub_cancel]));obtain⟨DC,hDC⟩:∃ DC,DC=dateCells y M (n+1) hq mq sq:=⟨_,rfl⟩
      have HDC:=hid hDC;have HDs:Hid (DC.size=6/\DC.all (·.oneCell')=true):=hid (by rw[hDC];exact⟨rfl,by simp[Value.oneCell']⟩);clear hDC;have HInf:Hid ((prog.info? 156).map (·.size)=some 6):=hid (by kernel_rfl);go_wp2_with (first
       |(go_at_call 137;refine(HDy.out _).mono ?_;rintro e w4 ⟨rfl,hg4⟩;have HO4:=hid (HO.out.more hg4);have x2:=cell_blk HO4.out.blk 2 rfl;have x3:=zAh HO4.out.blk 2;have HO5:=hid (HO4.out.day ((n:Int)+1) (n+1) (by omega));have HBk:=hid HO5.out.blk;rw[<-HDC.out]at HBk;clear hg4 HO)
       |(refine wpList_load_row (by rfl) 156 (.tmp 3) (by rfl) (w.heap.size+1) (by rfl) _ DC (0,0) _ HBk.out underlying156 (by rfl) (by rw[HDs.out.1];exact HInf.out) ?_)
       |(refine wpList_store_row (by rfl) 156 (.tmp 2) (.tmp 51) (by rfl) w.heap.size DC (by rfl) (by rfl) _ _ HO5.out.res (by rw[HDs.out.1];exact HInf.out) (by rw[HDs.out.1];rfl) HDs.out.2 ?_))
      refine bodyPost_ret (v:=.agg DC) ?_ rfl ⟨?_,zC0 HO5.out.grown (Nat.le_refl _) _⟩
      ·exact results_cell_row results99 _ _ w.heap.size _ _ (0,0) _ rfl (setRow_heap _ _ _ DC _ _ HO5.out.res) underlying156 rfl (by rw[HDs.out.1];exact HInf.out)
      ·rw[HEnd.out,HDC.out,HY.out];rfl
     ·have hm11:m+1<12:=by
       rcases Nat.lt_or_ge (m+1) 12 with h1|h1
       ·exact h1
       ·have e:=HM.out;have e12:M=12:=by omega
        have e1:=HMS.out;have e2:=HM12.out;have e3:=HNy.out;rw[e12,e2]at e1;omega
      go_wp2_with (first
       |(go_at_call 137;refine(HDy.out _).mono ?_;rintro e w4 ⟨rfl,hg4⟩;have HO4:=hid (HO.out.more hg4);have x0:=cell_blk HO4.out.blk 0 rfl;have x1:=cell_blk HO4.out.blk 1 rfl;clear hg4 HO)
       |(go_at_call 137;refine(HDy.out _).mono ?_;rintro e w5 ⟨rfl,hg5⟩;have HO5:=hid (HO4.out.more hg5);have z1:=cell_blk HO5.out.blk 1 rfl;have z3:=zAh HO5.out.blk 1;clear hg5 HO4))
      go_roundw
      case rel=>exact⟨M,n-dd,by have:=HM.out;omega,by go_num,by omega,by have:=HMS.out;have:=HNy.out;omega,by rw[HN.out,HMS.out];omega,HO5.out.month _ (M+1) (by omega)⟩
      case measure=>simp[intOf];omega
   ·have hk1:k+1<8030:=by
     rcases Nat.lt_or_ge (k+1) 8030 with h1|h1
     ·exact h1
     ·have e:k+1=8030:=by omega
      have e1:=HL2.out;have e2:=HB8.out;have e3:=HN.out;have e4:=HL6.out;rw[e,e2]at e1;omega
    go_wp2_with (go_at_call 136;refine(HLy.out _).mono ?_;rintro e w1 ⟨rfl,hw⟩;have hw2:=hw.symm;subst hw2;clear hw)
    go_roundw
    case rel=>exact⟨k+1,n-366,hk1,by go_num,by rw[HL2.out,HN.out,HL6.out];omega,HO.out.year _ (1970+(k+1)) (by have:=HY.out;omega)⟩
    case measure=>simp[intOf];omega
  |false =>
   rw[hl]at HLy;have HL6:Hid (L=365):=hid (by rw[HLL.out,HYl.out,hl];rfl);clear hl;by_cases hlt:n<365
   ·have HK:=hid hk;go_wp2_with (go_at_call 136;refine(HLy.out _).mono ?_;rintro e w1 ⟨rfl,hw⟩;have hw2:=hw.symm;subst hw2;clear hw)
    have HN1:Hid (n+Cal.ms y 0<Cal.yearLen y):=hid (by rw[<-HLL.out,HL6.out];exact hlt);have HN0:Hid (n0=Cal.bef k+Cal.ms y 0+n):=hid (by rw[HN.out];rfl);simp only[decide_eq_true (show(n:Int)<365 by omega)];clear b0 b1 hlt;go_loopw [4] (fun x wr=>∃ m n:Nat,m<12/\x=.int .i64 ((n:Nat):Int)/\n<=400/\n+Cal.ms y m<Cal.yearLen y/\n0=Cal.bef k+Cal.ms y m+n/\OfS w wr y (m+1) 0 hq mq sq) (fun x _=>(intOf x).toNat)
    case atStart=>exact⟨0,n,by omega,rfl,by have:=HN1.out;have:=(Cal.yearLen_le y).2;omega,HN1.out,HN0.out,HO.out⟩
    case round =>
     obtain⟨m,n,hm,rfl,hn4,hny,hn,ho⟩:=hrel;have HO:=hid ho;have HMS:Hid (Cal.ms y (m+1)=Cal.ms y m+Cal.days y (m+1)):=hid rfl;have HM12:=hid (Cal.ms12 y);have HNy:=hid hny;have HN:=hid hn;obtain⟨M,hM⟩:∃ M,M=m+1:=⟨_,rfl⟩
     rw[<-hM]at HO HMS;have HM:=hid hM;have p0:=cell_blk HO.out.blk 0 rfl;have p1:=cell_blk HO.out.blk 1 rfl;have hdp:=Cal.days_pos (y:=y) (m:=M) (by omega) (by omega);have HDy:=hid (fun W=>HDa.out y M W);have hM12:M<=12:=by omega
     obtain⟨dd,hdd⟩:∃ dd,dd=Cal.days y M:=⟨_,rfl⟩
     rw[<-hdd]at hdp HDy HMS;have HDD:=hid hdd;clear ho hny hn hM hdd;by_cases hnd:n<dd
     ·have HEnd:=hid (HOf.out k M n HK.out ⟨by have:=HM.out;omega,hM12⟩ (by rw[<-HY.out,<-HDD.out];exact hnd) (by rw[<-HY.out,HN.out,HM.out,Nat.add_sub_cancel]));obtain⟨DC,hDC⟩:∃ DC,DC=dateCells y M (n+1) hq mq sq:=⟨_,rfl⟩
      have HDC:=hid hDC;have HDs:Hid (DC.size=6/\DC.all (·.oneCell')=true):=hid (by rw[hDC];exact⟨rfl,by simp[Value.oneCell']⟩);clear hDC;have HInf:Hid ((prog.info? 156).map (·.size)=some 6):=hid (by kernel_rfl);go_wp2_with (first
       |(go_at_call 137;refine(HDy.out _).mono ?_;rintro e w4 ⟨rfl,hg4⟩;have HO4:=hid (HO.out.more hg4);have x2:=cell_blk HO4.out.blk 2 rfl;have x3:=zAh HO4.out.blk 2;have HO5:=hid (HO4.out.day ((n:Int)+1) (n+1) (by omega));have HBk:=hid HO5.out.blk;rw[<-HDC.out]at HBk;clear hg4 HO)
       |(refine wpList_load_row (by rfl) 156 (.tmp 3) (by rfl) (w.heap.size+1) (by rfl) _ DC (0,0) _ HBk.out underlying156 (by rfl) (by rw[HDs.out.1];exact HInf.out) ?_)
       |(refine wpList_store_row (by rfl) 156 (.tmp 2) (.tmp 51) (by rfl) w.heap.size DC (by rfl) (by rfl) _ _ HO5.out.res (by rw[HDs.out.1];exact HInf.out) (by rw[HDs.out.1];rfl) HDs.out.2 ?_))
      refine bodyPost_ret (v:=.agg DC) ?_ rfl ⟨?_,zC0 HO5.out.grown (Nat.le_refl _) _⟩
      ·exact results_cell_row results99 _ _ w.heap.size _ _ (0,0) _ rfl (setRow_heap _ _ _ DC _ _ HO5.out.res) underlying156 rfl (by rw[HDs.out.1];exact HInf.out)
      ·rw[HEnd.out,HDC.out,HY.out];rfl
     ·have hm11:m+1<12:=by
       rcases Nat.lt_or_ge (m+1) 12 with h1|h1
       ·exact h1
       ·have e:=HM.out;have e12:M=12:=by omega
        have e1:=HMS.out;have e2:=HM12.out;have e3:=HNy.out;rw[e12,e2]at e1;omega
      go_wp2_with (first
       |(go_at_call 137;refine(HDy.out _).mono ?_;rintro e w4 ⟨rfl,hg4⟩;have HO4:=hid (HO.out.more hg4);have x0:=cell_blk HO4.out.blk 0 rfl;have x1:=cell_blk HO4.out.blk 1 rfl;clear hg4 HO)
       |(go_at_call 137;refine(HDy.out _).mono ?_;rintro e w5 ⟨rfl,hg5⟩;have HO5:=hid (HO4.out.more hg5);have z1:=cell_blk HO5.out.blk 1 rfl;have z3:=zAh HO5.out.blk 1;clear hg5 HO4))
      go_roundw
      case rel=>exact⟨M,n-dd,by have:=HM.out;omega,by go_num,by omega,by have:=HMS.out;have:=HNy.out;omega,by rw[HN.out,HMS.out];omega,HO5.out.month _ (M+1) (by omega)⟩
      case measure=>simp[intOf];omega
   ·have hk1:k+1<8030:=by
     rcases Nat.lt_or_ge (k+1) 8030 with h1|h1
     ·exact h1
     ·have e:k+1=8030:=by omega
      have e1:=HL2.out;have e2:=HB8.out;have e3:=HN.out;have e4:=HL6.out;rw[e,e2]at e1;omega
    go_wp2_with (go_at_call 136;refine(HLy.out _).mono ?_;rintro e w1 ⟨rfl,hw⟩;have hw2:=hw.symm;subst hw2;clear hw)
    go_roundw
    case rel=>exact⟨k+1,n-365,hk1,by go_num,by rw[HL2.out,HN.out,HL6.out];omega,HO.out.year _ (1970+(k+1)) (by have:=HY.out;omega)⟩
    case measure=>simp[intOf];omega
end Go.Proofs.YtijkaknggdaajaaGreatDoor
