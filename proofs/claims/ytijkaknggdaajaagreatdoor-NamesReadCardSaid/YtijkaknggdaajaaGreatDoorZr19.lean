import Derived.Test.YtijkaknggdaajaaGreatDoorZr04
import Derived.Test.YtijkaknggdaajaaGreatDoorZr13
import Derived.Test.YtijkaknggdaajaaGreatDoorZr15
import Derived.Test.YtijkaknggdaajaaGreatDoorZr18
import Derived.Deep.Quiet
import Derived.Deep.QuietTactic
import Derived.BigQuiet
import Derived.StillTail
import Derived.KernelRfl
import Derived.Deep.MidRow
import Derived.WalkKit
set_option linter.unusedVariables false
set_option linter.unusedSimpArgs false
set_option maxRecDepth 100000
set_option maxHeartbeats 1000000
namespace Go.Proofs.YtijkaknggdaajaaGreatDoor
open Go.RowKit
abbrev dV (d:Cal.DI):Value:=.agg #[.int .i64 d.Y,.int .i64 d.M,.int .i64 d.D,.int .i64 d.h,.int .i64 d.mi,.int .i64 d.s]
theorem fieldc_val {P:Program} {a:Act} {o:Oper} {w:World} {t:TypeId} {x:Operand} {k:Nat} {p v:Value} (ho:o.op=.fieldAddr t x k) (hx:a.eval x=p) (h:(Instr.fieldAt t p k).run P w=.ok v w):(execOp a.eval o).run P w=.ok (.value v) w:=by
 simp[execOp,ho,hx,h,Result.andThen]
theorem convc_val {P:Program} {a:Act} {o:Oper} {w w':World} {s d:TypeId} {x:Operand} {p v:Value} (ho:o.op=.convert s d x) (hx:a.eval x=p) (h:(convert s d p).run P w=.ok v w'):(execOp a.eval o).run P w=.ok (.value v) w':=by
 simp[execOp,ho,hx,h,Result.andThen]
def isBw (l:List Nat):Value→World→Prop:=fun x w=>Bytes w x l∧Whole0 x
theorem stays_isBw (l:List Nat):Stays (isBw l):=fun _ _ _ hg h=>⟨h.1.grown hg,h.2⟩
theorem conv_bw (w:World) (e:TypeId) (s:ByteArray):isBw (strL s) (.slice (some ⟨w.heap.size,0,none⟩) s.size (grownCap w s.size 0 e)) (Lib.bytesWorld w e s):=by
 refine ⟨⟨strL_lt s,some ⟨w.heap.size,0,none⟩,w.heap.size,0,_,by rw[strL_len],by rw[strL_len];exact grownCap_ge _ _ _ _,fun _=>⟨rfl,by rw[Lib.bytesWorld_size];omega⟩,fun j hj=>?_⟩,Whole0.some _ _ _⟩
 rw[Nat.zero_add,Lib.bytesWorld_cell w e s j (by rw[←strL_len];exact hj)]
 congr 3
 simp[strL]
 cases s.data[j]? <;> rfl
noncomputable def bo_regionC:Code:=regionIn Tryz.f60.body 13
theorem bo_region (a:Act) (g:Nat) (S:ByteArray) (n:Int) (k:Nat) (W w:World) (Q:Exit→Act→World→Prop) (hsz:a.tmps.size=77)
  (h1:a.eval (.tmp 1)=.pointer (some ⟨g,0,none⟩))
  (hF4:∀ w,(Instr.fieldAt 63 (.pointer (some ⟨g,0,none⟩)) 4).run Tryz.prog w=.ok (.pointer (some ⟨g,4,none⟩)) w)
  (hF1:∀ w,(Instr.fieldAt 63 (.pointer (some ⟨g,0,none⟩)) 1).run Tryz.prog w=.ok (.pointer (some ⟨g,1,none⟩)) w)
  (hL4:∀ w,W.grownBy w none→(Instr.loadAt 9 (.pointer (some ⟨g,4,none⟩))).run Tryz.prog w=.ok (.string S) w)
  (hL1:∀ w,W.grownBy w none→(Instr.loadAt 3 (.pointer (some ⟨g,1,none⟩))).run Tryz.prog w=.ok (.int .i64 n) w)
  (hA:∀ w,Calls Tryz.prog 95 #[.string S,.int .i64 n] w fun e w'=>e=.returned (.int .i64 (k:Int))∧w'=w)
  (hw:W.grownBy { w with drawn:=w.drawn+1 } none)
  (hQ:∀ us w',W.grownBy w' none→(isV (.int .i64 12)) (us 2) w'→(isBw (strL S)) (us 3) w'→Q .normal ((fill a [31,32,33,34,35,36,37,38,2,3] us).put (some 4) (.int .i64 (k:Int))) w'):bo_regionC.wp Tryz.prog Q a w:=by
 have hst:StaysAll [isV (.pointer (some ⟨g,4,none⟩)),isV (.string S),isBw (strL S),isV (.pointer (some ⟨g,4,none⟩)),isV (.string S),isV (.pointer (some ⟨g,1,none⟩)),isV (.int .i64 n),isV (.int .i64 (k:Int)),isV (.int .i64 12),isBw (strL S)]:=⟨stays_V _,stays_V _,stays_isBw _,stays_V _,stays_V _,stays_V _,stays_V _,stays_V _,stays_V _,stays_isBw _,trivial⟩
 conv=>arg 2;whnf
 refine wp_region_flow 10 [31,32,33,34,35,36,37,38,2,3] (fun w'=>W.grownBy w' none) (fun w w'=>w.grownBy w' none) (flF [isV (.pointer (some ⟨g,4,none⟩)),isV (.string S),isBw (strL S),isV (.pointer (some ⟨g,4,none⟩)),isV (.string S),isV (.pointer (some ⟨g,1,none⟩)),isV (.int .i64 n),isV (.int .i64 (k:Int)),isV (.int .i64 12),isBw (strL S)]) (by kernel_rfl) (by kernel_rfl) (fun _ _ h k=>grown_trans k h) (fun j x w w' hg h=>flF_stays hst j x w w' hg h) hw ?_ ?_
 ·refine ⟨?_,?_,?_,?_,?_,?_,?_,?_,?_,?_,trivial⟩
  ·exact flow_step (fun us w hC hd=>wants_free rfl) (fun us w hC hd=>⟨_,w,fieldc_val rfl ((fill_old (by rfl)).trans h1) (hF4 w),grown_refl _ _,rfl⟩)
  ·exact flow_step (fun us w hC hd=>wants_free rfl) (fun us w hC hd=>⟨_,w,loadc_val rfl ((fill_tmp (by rfl) (by rw[hsz];decide)).trans (hd 0 (by decide))) (hL4 w hC),grown_refl _ _,rfl⟩)
  ·exact flow_step (fun us w hC hd=>wants_free rfl) (fun us w hC hd=>⟨_,_,convc_val rfl ((fill_tmp (by rfl) (by rw[hsz];decide)).trans (hd 1 (by decide))) (Lib.run_convert_string_bytes w _ _ _ S Tryz.underlying9 Tryz.underlying33 Tryz.underlying5),grown_bytesW w _ S,conv_bw w _ S⟩)
  ·exact flow_step (fun us w hC hd=>wants_free rfl) (fun us w hC hd=>⟨_,w,fieldc_val rfl ((fill_old (by rfl)).trans h1) (hF4 w),grown_refl _ _,rfl⟩)
  ·exact flow_step (fun us w hC hd=>wants_free rfl) (fun us w hC hd=>⟨_,w,loadc_val rfl ((fill_tmp (by rfl) (by rw[hsz];decide)).trans (hd 3 (by decide))) (hL4 w hC),grown_refl _ _,rfl⟩)
  ·exact flow_step (fun us w hC hd=>wants_free rfl) (fun us w hC hd=>⟨_,w,fieldc_val rfl ((fill_old (by rfl)).trans h1) (hF1 w),grown_refl _ _,rfl⟩)
  ·exact flow_step (fun us w hC hd=>wants_free rfl) (fun us w hC hd=>⟨_,w,loadc_val rfl ((fill_tmp (by rfl) (by rw[hsz];decide)).trans (hd 5 (by decide))) (hL1 w hC),grown_refl _ _,rfl⟩)
  ·refine flow_call 95 (fun us=>#[us 35,us 37]) (fun us w hC hd=>wants_free rfl) (fun us w=>by rw[call_enter rfl (fun _ _=>by simp[go_sem]),List.map_toArray,List.map_cons,List.map_cons,List.map_nil,fill_tmp (by rfl) (by rw[hsz];decide),fill_tmp (by rfl) (by rw[hsz];decide)]) (fun us w hC' hd=>?_)
   rw[show us 35=.string S from hd 4 (by decide)]
   rw[show us 37=.int .i64 n from hd 6 (by decide)]
   exact (hA w).mono (by rintro e w' ⟨rfl,h⟩;rw[h];exact ⟨_,rfl,grown_refl _ _,rfl⟩)
  ·exact flow_step (fun us w hC hd=>wants_free rfl) (fun us w hC hd=>⟨_,w,assign_val rfl rfl,grown_refl _ _,rfl⟩)
  ·exact flow_step (fun us w hC hd=>wants_free rfl) (fun us w hC hd=>⟨_,w,assign_val rfl (fill_tmp (by rfl) (by rw[hsz];decide)),grown_refl _ _,hd 2 (by decide)⟩)
 ·intro us w' hC' hd
  exact wpList_last rfl (assign_val rfl ((fill_tmp (by rfl) (by rw[hsz];decide)).trans (hd 7 (by decide)))) (hQ us w' hC' (hd 8 (by decide)) (hd 9 (by decide)))
end Go.Proofs.YtijkaknggdaajaaGreatDoor
