import Derived.Test.YtijkaknggdaajaaGreatDoorZr00
import Derived.Test.YtijkaknggdaajaaGreatDoorZr04
import Derived.Test.YtijkaknggdaajaaGreatDoorZr07
import Derived.Test.YtijkaknggdaajaaGreatDoorZr14
import Derived.Test.YtijkaknggdaajaaGreatDoorZr15
import Derived.Test.YtijkaknggdaajaaGreatDoorZr16
import Derived.Test.YtijkaknggdaajaaGreatDoorZr18
import Derived.Test.YtijkaknggdaajaaGreatDoorZr19
import Derived.Test.YtijkaknggdaajaaGreatDoorZr20
import Derived.Test.YtijkaknggdaajaaGreatDoorZr21
import Derived.Test.YtijkaknggdaajaaGreatDoorZr27
import Derived.Test.YtijkaknggdaajaaGreatDoorZr29
import Derived.Test.YtijkaknggdaajaaGreatDoorZr33
import Derived.Test.YtijkaknggdaajaaGreatDoorZr34
import Derived.Laws.Rows
import Derived.Laws.Tables
import Derived.OrdersHeld
import Derived.Deep.RegionHeld3
import Derived.Deep.Quiet
import Derived.Deep.QuietTactic
import Derived.BigQuiet
import Derived.StillTail
import Derived.KernelRfl
import Derived.Deep.MidRow
import Derived.WalkKit
set_option linter.unusedVariables false
set_option linter.unusedSimpArgs false
set_option maxRecDepth 100000
set_option maxHeartbeats 1000000
namespace Go.Proofs.YtijkaknggdaajaaGreatDoor
open Lib (hid)
def szR (s:De.Rd):Nat:=if s.e=0 then s.top.length else 0
structure LeftI (j:Nat) (s:De.Rd):Prop where
 sz:j+szR s≤2000
 top:s.top.length≤2000
 lev:s.left.length≤17
 e28:s.e≤28
theorem first_len {l:List Nat} {t i n:Nat} (h:Tl.first l=.ok (t,i,n)):2≤l.length:=by
 match l,h with
 |[],h=>exact absurd h (by simp[Tl.first])
 |[x],h =>
  rw[Tl.first] at h
  split at h
  ·cases h
  ·exact absurd h (by simp[Tl.rdLen])
 |x :: y :: r,_=>simp
theorem next_less {s:De.Rd} {tag:Int}:(De.next s tag).1.left=s.left∧(De.next s tag).1.top.length≤s.top.length∧∀ x y,(De.next s tag).2=some (x,y)→(De.next s tag).1.e=s.e∧(De.next s tag).1.top.length+2≤s.top.length∧x.length≤s.top.length:=by
 unfold De.next
 by_cases he:s.e≠0
 ·rw[if_pos he];exact ⟨rfl,Nat.le_refl _,fun x y e=>by cases e⟩
 ·rw[if_neg he]
  cases hf:Tl.first s.top with
  |error k=>exact ⟨rfl,Nat.le_refl _,fun x y e=>by cases e⟩
  |ok p =>
   obtain ⟨t,i,n⟩:=p
   simp only
   by_cases ht:tag≠0∧(t:Int)≠tag
   ·rw[if_pos ht];exact ⟨rfl,Nat.le_refl _,fun x y e=>by cases e⟩
   ·rw[if_neg ht]
    have h2:=Tl.first_two hf
    have hne:s.top≠[]:=by
     intro h0;rw[h0] at hf;exact absurd hf (by simp[Tl.first])
    refine ⟨rfl,by rw[List.length_drop];omega,fun x y e=>⟨rfl,?_,?_⟩⟩
    ·have h3:=first_len hf
     rw[List.length_drop];omega
    ·obtain ⟨rfl,_⟩:=Prod.mk.inj (Option.some.inj e)
     rw[List.length_take,List.length_drop];omega
theorem LeftI.le {j:Nat} {s:De.Rd} (h:LeftI j s):j≤2000:=by have:=h.sz;omega
theorem ask_leave (s:De.Rd) (tag least most:Int):(De.ask s 2 tag least most).1=De.leave s:=by
 unfold De.ask
 by_cases he:s.e≠0
 ·rw[if_pos he,leave_e he]
 ·rw[if_neg he,if_neg (by decide),if_pos rfl]
theorem ask_enter (s:De.Rd) (tag least most:Int):(De.ask s 1 tag least most).1=(De.enter s tag).1:=by
 unfold De.ask
 by_cases he:s.e≠0
 ·rw[if_pos he];unfold De.enter;rw[if_pos he]
 ·rw[if_neg he,if_pos rfl]
end Go.Proofs.YtijkaknggdaajaaGreatDoor
namespace Go.Proofs.YtijkaknggdaajaaGreatDoor
open Lib (hid)
open Go.RowKit
def isM (t:Int):Prop:=0≤t∧t≤253402300799
instance (t:Int):Decidable (isM t):=by unfold isM;infer_instance
def SaidO (v:Value) (b:List Nat) (R:Except Nat De.Val) (w w':World) (e:Ending):Prop:=w.grownBy w' none∧∃ (n:Int) (q:Bool) (a:Option Addr) (l c:Nat) (S:ByteArray),e=.returned (.tuple #[.agg #[.int .i64 0,.int .i64 n,.bool q,.slice a l c,.string S],.int .i64 (errNat R:Nat)]) ∧
 ∀ x,R=.ok x→x.kind=0∧x.n=n∧x.is=q∧x.t=strL S∧((x.b=[]∧Value.slice a l c=.slice none 0 0)∨(x.b=b∧Value.slice a l c=v))
theorem dr_one5 (k n:Int) (q:Bool) (a:Option Addr) (l c:Nat) (S:ByteArray):(#[.int .i64 k,.int .i64 n,.bool q,.slice a l c,.string S]:Array Value).all (·.oneCell')=true:=by simp[Value.oneCell']
theorem dr_grown {w W2 w3 w4:World} {oa oc:Obj} {D:Array Value} (hW:W2=(w.alloc oa).alloc oc) (hg:W2.grownBy w3 none) (h4:w4=w3.setRow (w.heap.size+1) D):w.grownBy w4 none:=by
 subst hW
 subst h4
 have hga:w.grownBy ((w.alloc oa).alloc oc) none:=grown_alloc (World.grownBy_alloc _ _ _) _
 have h1:=grown_trans hga hg
 have hs:=hg.size
 rw[alloc2_size] at hs
 exact ⟨h1.os,h1.tape,h1.output,by simp;exact h1.size,fun k hk hne=>by
  rw[setRow_other _ _ _ _ (by omega)];exact h1.block k hk hne⟩
theorem wget_err {l:List Nat} {k:Nat} (h:Wh.get l=.error k):k≠0:=by
 unfold Wh.get at h
 split at h
 ·cases h;decide
 ·split at h
  ·cases h;decide
  ·split at h
   ·cases h;decide
   ·cases h
theorem saidO_err {v:Value} {b:List Nat} {R:Except Nat De.Val} {k:Nat} {n:Int} {w w':World} (h:R=.error k) (hg:w.grownBy w' none) (q:Bool) (a:Option Addr) (l c:Nat) (S:ByteArray):SaidO v b R w w' (.returned (.tuple #[.agg #[.int .i64 0,.int .i64 n,.bool q,.slice a l c,.string S],.int .i64 (k:Nat)])):=by
 subst h
 exact ⟨hg,_,_,_,_,_,_,rfl,fun x h=>by cases h⟩
theorem refSaid_3 {w:World} (v:Value) (b:List Nat) (tag least most:Int) (hB:Bytes w v b) :
  Calls Tryz.prog 77 #[.agg #[.int .i64 3,.int .i64 tag,.int .i64 least,.int .i64 most],v] w fun e w'=>SaidO v b (De.said 3 least most b) w w' e:=by
 obtain ⟨R,hR⟩:∃ R,R=De.said 3 least most b:=⟨_,rfl⟩
 rw[←hR]
 unfold De.said at hR
 rw[if_pos (by decide)] at hR
 obtain ⟨W2,hW2⟩:∃ W2,W2=(w.alloc (.cells #[.int .i64 3,.int .i64 tag,.int .i64 least,.int .i64 most] 76)).alloc (.cells #[.int .i64 0,.int .i64 0,.bool false,.slice none 0 0,.string ⟨#[]⟩] 63):=⟨_,rfl⟩
 have hga:w.grownBy W2 none:=by rw[hW2];exact grown_alloc (World.grownBy_alloc _ _ _) _
 have b0:W2.heap[w.heap.size]?=some (.cells #[.int .i64 3,.int .i64 tag,.int .i64 least,.int .i64 most] 76 (0,0)):=by rw[hW2];exact alloc2_old _ _ _
 have b1:W2.heap[w.heap.size+1]?=some (.cells #[.int .i64 0,.int .i64 0,.bool false,.slice none 0 0,.string ⟨#[]⟩] 63 (0,0)):=by rw[hW2];exact alloc2_new _ _ _
 have hs2:W2.heap.size=w.heap.size+2:=by rw[hW2,alloc2_size]
 have HB3:Hid (∀ w3,W2.grownBy w3 none→w3.heap[w.heap.size+1]?=some (.cells #[.int .i64 0,.int .i64 0,.bool false,.slice none 0 0,.string ⟨#[]⟩] 63 (0,0))):=hid (fun w3 hg=>(hg.block _ (by omega) (by simp)).trans b1)
 have HA3:Hid (∀ w3,W2.grownBy w3 none→w3.heap[w.heap.size]?=some (.cells #[.int .i64 3,.int .i64 tag,.int .i64 least,.int .i64 most] 76 (0,0))):=hid (fun w3 hg=>(hg.block _ (by omega) (by simp)).trans b0)
 have HW2:=hid hW2
 have HI5:Hid ((Tryz.prog.info? 63).map (·.size)=some 5):=hid (by kernel_rfl)
 have hn:=refWGet_any v b W2 (hB.grown hga)
 have HG2:=hid (grown_refl W2 none)
 cases hw:Wh.get b with
 |error k =>
  rw[hw] at hR hn
  simp only at hR hn
  have hk:((k:Nat):Int)≠0:=by have:=wget_err hw;omega
  have HN:Hid (Calls Tryz.prog 115 #[v] W2 fun e w'=>e=.returned (.tuple #[.int .i64 0,.int .i64 (k:Nat)])∧W2.grownBy w' none):=hid (hn.mono (fun e w' h=>⟨h.2,by rw[h.1];exact grown_refl _ _⟩))
  have HR:=hid hR
  have c0:=cell_blk (HA3.out _ HG2.out) 0 rfl
  rw[hW2] at c0
  clear hn hw hR hB hga b0 b1 hs2 hW2
  go_enter Tryz.func77,Tryz.ntmps77
  go_wp2_with (first
   |(go_at_call 115;rw[←HW2.out];refine HN.out.mono ?_;rintro e w3 ⟨rfl,hg3⟩;have HG3:=hid hg3;have d0:=cell_blk (HA3.out _ hg3) 0 rfl;have d2:=cell_blk (HA3.out _ hg3) 2 rfl;have d3:=cell_blk (HA3.out _ hg3) 3 rfl;clear hg3)
   |(refine wpList_store_row (by rfl) 63 (.tmp 4) (.tmp 39) (by rfl) (w.heap.size+1) #[.int .i64 0,.int .i64 0,.bool false,.slice none 0 0,.string ⟨#[]⟩] (by rfl) (by rfl) _ _ (HB3.out _ HG3.out) HI5.out rfl (dr_one5 _ _ _ _ _ _ _) ?_;obtain ⟨w4,hw4⟩:∃ w4,w4=w3.setRow (w.heap.size+1) #[.int .i64 0,.int .i64 0,.bool false,.slice none 0 0,.string ⟨#[]⟩]:=⟨_,rfl⟩;rw[←hw4];have hb4:w4.heap[w.heap.size+1]?=some (.cells #[.int .i64 0,.int .i64 0,.bool false,.slice none 0 0,.string ⟨#[]⟩] 63 (0,0)):=(by rw[hw4];exact setRow_heap _ _ _ _ _ _ (HB3.out _ HG3.out));have HW4:=hid hw4;have HB4:=hid hb4;clear hw4 hb4))
  refine bodyPost_ret (v:=.tuple #[.agg #[.int .i64 0,.int .i64 0,.bool false,.slice none 0 0,.string ⟨#[]⟩],.int .i64 (k:Nat)]) ?_ rfl ?_
  ·exact results_rowT Tryz.results77 _ _ (w.heap.size+1) _ _ (0,0) _ _ rfl HB4.out Tryz.underlying63 rfl HI5.out rfl
  exact saidO_err HR.out (dr_grown HW2.out HG3.out HW4.out) _ _ _ _ _
 |ok n =>
  rw[hw] at hR hn
  simp only at hR hn
  have HN:Hid (Calls Tryz.prog 115 #[v] W2 fun e w'=>e=.returned (.tuple #[.int .i64 n,.int .i64 0])∧W2.grownBy w' none):=hid (hn.mono (fun e w' h=>⟨h.2,by rw[h.1];exact grown_refl _ _⟩))
  have c0:=cell_blk (HA3.out _ HG2.out) 0 rfl
  rw[hW2] at c0
  clear hn hw hB hga b0 b1 hs2 hW2
  by_cases h1:n<least
  ·rw[if_pos (.inl h1)] at hR
   have HR:=hid hR
   clear hR
   go_enter Tryz.func77,Tryz.ntmps77
   go_wp2_with (first
    |(go_at_call 115;rw[←HW2.out];refine HN.out.mono ?_;rintro e w3 ⟨rfl,hg3⟩;have HG3:=hid hg3;have d0:=cell_blk (HA3.out _ hg3) 0 rfl;have d2:=cell_blk (HA3.out _ hg3) 2 rfl;have d3:=cell_blk (HA3.out _ hg3) 3 rfl;clear hg3)
    |(refine wpList_store_row (by rfl) 63 (.tmp 4) (.tmp 39) (by rfl) (w.heap.size+1) #[.int .i64 0,.int .i64 n,.bool false,.slice none 0 0,.string ⟨#[]⟩] (by rfl) (by rfl) _ _ (HB3.out _ HG3.out) HI5.out rfl (dr_one5 _ _ _ _ _ _ _) ?_;obtain ⟨w4,hw4⟩:∃ w4,w4=w3.setRow (w.heap.size+1) #[.int .i64 0,.int .i64 n,.bool false,.slice none 0 0,.string ⟨#[]⟩]:=⟨_,rfl⟩;rw[←hw4];have hb4:w4.heap[w.heap.size+1]?=some (.cells #[.int .i64 0,.int .i64 n,.bool false,.slice none 0 0,.string ⟨#[]⟩] 63 (0,0)):=(by rw[hw4];exact setRow_heap _ _ _ _ _ _ (HB3.out _ HG3.out));have HW4:=hid hw4;have HB4:=hid hb4;clear hw4 hb4))
   refine bodyPost_ret (v:=.tuple #[.agg #[.int .i64 0,.int .i64 n,.bool false,.slice none 0 0,.string ⟨#[]⟩],.int .i64 1]) ?_ rfl ?_
   ·exact results_rowT Tryz.results77 _ _ (w.heap.size+1) _ _ (0,0) _ _ rfl HB4.out Tryz.underlying63 rfl HI5.out rfl
   exact saidO_err HR.out (dr_grown HW2.out HG3.out HW4.out) _ _ _ _ _
  by_cases h2:most<n
  ·rw[if_pos (.inr h2)] at hR
   have HR:=hid hR
   clear hR
   go_enter Tryz.func77,Tryz.ntmps77
   go_wp2_with (first
    |(go_at_call 115;rw[←HW2.out];refine HN.out.mono ?_;rintro e w3 ⟨rfl,hg3⟩;have HG3:=hid hg3;have d0:=cell_blk (HA3.out _ hg3) 0 rfl;have d2:=cell_blk (HA3.out _ hg3) 2 rfl;have d3:=cell_blk (HA3.out _ hg3) 3 rfl;clear hg3)
    |(refine wpList_store_row (by rfl) 63 (.tmp 4) (.tmp 39) (by rfl) (w.heap.size+1) #[.int .i64 0,.int .i64 n,.bool false,.slice none 0 0,.string ⟨#[]⟩] (by rfl) (by rfl) _ _ (HB3.out _ HG3.out) HI5.out rfl (dr_one5 _ _ _ _ _ _ _) ?_;obtain ⟨w4,hw4⟩:∃ w4,w4=w3.setRow (w.heap.size+1) #[.int .i64 0,.int .i64 n,.bool false,.slice none 0 0,.string ⟨#[]⟩]:=⟨_,rfl⟩;rw[←hw4];have hb4:w4.heap[w.heap.size+1]?=some (.cells #[.int .i64 0,.int .i64 n,.bool false,.slice none 0 0,.string ⟨#[]⟩] 63 (0,0)):=(by rw[hw4];exact setRow_heap _ _ _ _ _ _ (HB3.out _ HG3.out));have HW4:=hid hw4;have HB4:=hid hb4;clear hw4 hb4))
   refine bodyPost_ret (v:=.tuple #[.agg #[.int .i64 0,.int .i64 n,.bool false,.slice none 0 0,.string ⟨#[]⟩],.int .i64 1]) ?_ rfl ?_
   ·exact results_rowT Tryz.results77 _ _ (w.heap.size+1) _ _ (0,0) _ _ rfl HB4.out Tryz.underlying63 rfl HI5.out rfl
   exact saidO_err HR.out (dr_grown HW2.out HG3.out HW4.out) _ _ _ _ _
  rw[if_neg (by omega)] at hR
  have HR:=hid hR
  clear hR
  go_enter Tryz.func77,Tryz.ntmps77
  go_wp2_with (first
   |(go_at_call 115;rw[←HW2.out];refine HN.out.mono ?_;rintro e w3 ⟨rfl,hg3⟩;have HG3:=hid hg3;have d0:=cell_blk (HA3.out _ hg3) 0 rfl;have d2:=cell_blk (HA3.out _ hg3) 2 rfl;have d3:=cell_blk (HA3.out _ hg3) 3 rfl;clear hg3)
   |(refine wpList_store_row (by rfl) 63 (.tmp 4) (.tmp 39) (by rfl) (w.heap.size+1) #[.int .i64 0,.int .i64 n,.bool false,.slice none 0 0,.string ⟨#[]⟩] (by rfl) (by rfl) _ _ (HB3.out _ HG3.out) HI5.out rfl (dr_one5 _ _ _ _ _ _ _) ?_;obtain ⟨w4,hw4⟩:∃ w4,w4=w3.setRow (w.heap.size+1) #[.int .i64 0,.int .i64 n,.bool false,.slice none 0 0,.string ⟨#[]⟩]:=⟨_,rfl⟩;rw[←hw4];have hb4:w4.heap[w.heap.size+1]?=some (.cells #[.int .i64 0,.int .i64 n,.bool false,.slice none 0 0,.string ⟨#[]⟩] 63 (0,0)):=(by rw[hw4];exact setRow_heap _ _ _ _ _ _ (HB3.out _ HG3.out));have HW4:=hid hw4;have HB4:=hid hb4;clear hw4 hb4))
  refine bodyPost_ret (v:=.tuple #[.agg #[.int .i64 0,.int .i64 n,.bool false,.slice none 0 0,.string ⟨#[]⟩],.int .i64 0]) ?_ rfl ?_
  ·exact results_rowT Tryz.results77 _ _ (w.heap.size+1) _ _ (0,0) _ _ rfl HB4.out Tryz.underlying63 rfl HI5.out rfl
  rw[HR.out]
  exact ⟨dr_grown HW2.out HG3.out HW4.out,_,_,_,_,_,_,rfl,fun x h=>by cases h;exact ⟨rfl,rfl,rfl,rfl,.inl ⟨rfl,rfl⟩⟩⟩
theorem build1c_val {P:Program} {a:Act} {o:Oper} {w:World} {t:TypeId} {x:Operand} {k:Nat} {p v:Value} (ho:o.op=.build t #[(k,x)]) (hx:a.eval x=p) (h:(Instr.build t #[(k,p)]).run P w=.ok v w):(execOp a.eval o).run P w=.ok (.value v) w:=by
 simp only[execOp,ho,List.map_toArray,List.map_cons,List.map_nil,hx]
 simp[Result.andThen,h]
noncomputable def sd_regionC:Code:=regionIn Tryz.f77.body 21
theorem sd_region (a:Act) (v:Value) (g:Nat) (S:ByteArray) (n:Int) (k:Nat) (W w:World) (Q:Exit→Act→World→Prop) (hsz:a.tmps.size=126)
  (h1:a.eval (.tmp 1)=v) (h2:a.eval (.tmp 2)=.pointer (some ⟨g,0,none⟩)) (h4:a.eval (.tmp 4)=.pointer (some ⟨g+1,0,none⟩))
  (hcv:∀ w,W.grownBy w none→(convert 33 9 v).run Tryz.prog w=.ok (.string S) w)
  (hF3:∀ w,(Instr.fieldAt 76 (.pointer (some ⟨g,0,none⟩)) 3).run Tryz.prog w=.ok (.pointer (some ⟨g,3,none⟩)) w)
  (hL3:∀ w,W.grownBy w none→(Instr.loadAt 3 (.pointer (some ⟨g,3,none⟩))).run Tryz.prog w=.ok (.int .i64 n) w)
  (hA:∀ w,Calls Tryz.prog 95 #[.string S,.int .i64 n] w fun e w'=>e=.returned (.int .i64 (k:Int))∧w'=w)
  (hB:∀ w,W.grownBy w none→w.heap[g+1]?=some (.cells #[.int .i64 0,.int .i64 0,.bool false,.slice none 0 0,.string ⟨#[]⟩] 63 (0,0)))
  (hI5:(Tryz.prog.info? 63).map (·.size)=some 5)
  (hw:W.grownBy { w with drawn:=w.drawn+1 } none)
  (hQ:∀ us w',W.grownBy w' none→Q .normal ((fill a [86,87,88,89,90,91,92,93] us).put (some 5) (.int .i64 (k:Int))) (w'.setRow (g+1) #[.int .i64 0,.int .i64 0,.bool false,.slice none 0 0,.string S])):sd_regionC.wp Tryz.prog Q a w:=by
 have hst:StaysAll [isV v,isV (.string S),isV (.agg #[.int .i64 0,.int .i64 0,.bool false,.slice none 0 0,.string S]),isV v,isV (.string S),isV (.pointer (some ⟨g,3,none⟩)),isV (.int .i64 n),isV (.int .i64 (k:Int))]:=⟨stays_V _,stays_V _,stays_V _,stays_V _,stays_V _,stays_V _,stays_V _,stays_V _,trivial⟩
 conv=>arg 2;whnf
 refine wp_region_flow 8 [86,87,88,89,90,91,92,93] (fun w'=>W.grownBy w' none) (fun w w'=>w.grownBy w' none) (flF [isV v,isV (.string S),isV (.agg #[.int .i64 0,.int .i64 0,.bool false,.slice none 0 0,.string S]),isV v,isV (.string S),isV (.pointer (some ⟨g,3,none⟩)),isV (.int .i64 n),isV (.int .i64 (k:Int))]) (by kernel_rfl) (by kernel_rfl) (fun _ _ h k=>grown_trans k h) (fun j x w w' hg h=>flF_stays hst j x w w' hg h) hw ?_ ?_
 ·refine ⟨?_,?_,?_,?_,?_,?_,?_,?_,trivial⟩
  ·exact flow_step (fun us w hC hd=>wants_free rfl) (fun us w hC hd=>⟨_,w,move_val rfl ((fill_old (by rfl)).trans h1),grown_refl _ _,rfl⟩)
  ·exact flow_step (fun us w hC hd=>wants_free rfl) (fun us w hC hd=>⟨_,w,conv_val rfl ((fill_tmp (by rfl) (by rw[hsz];decide)).trans (hd 0 (by decide))) (hcv w hC),grown_refl _ _,rfl⟩)
  ·exact flow_step (fun us w hC hd=>wants_free rfl) (fun us w hC hd=>⟨_,w,build1c_val rfl ((fill_tmp (by rfl) (by rw[hsz];decide)).trans (hd 1 (by decide))) (by simp[go_sem]),grown_refl _ _,rfl⟩)
  ·exact flow_step (fun us w hC hd=>wants_free rfl) (fun us w hC hd=>⟨_,w,move_val rfl ((fill_old (by rfl)).trans h1),grown_refl _ _,rfl⟩)
  ·exact flow_step (fun us w hC hd=>wants_free rfl) (fun us w hC hd=>⟨_,w,conv_val rfl ((fill_tmp (by rfl) (by rw[hsz];decide)).trans (hd 3 (by decide))) (hcv w hC),grown_refl _ _,rfl⟩)
  ·exact flow_step (fun us w hC hd=>wants_free rfl) (fun us w hC hd=>⟨_,w,fieldc_val rfl ((fill_old (by rfl)).trans h2) (hF3 w),grown_refl _ _,rfl⟩)
  ·exact flow_step (fun us w hC hd=>wants_free rfl) (fun us w hC hd=>⟨_,w,loadc_val rfl ((fill_tmp (by rfl) (by rw[hsz];decide)).trans (hd 5 (by decide))) (hL3 w hC),grown_refl _ _,rfl⟩)
  ·refine flow_call 95 (fun us=>#[us 90,us 92]) (fun us w hC hd=>wants_free rfl) (fun us w=>by rw[call_enter rfl (fun _ _=>by simp[go_sem]),List.map_toArray,List.map_cons,List.map_cons,List.map_nil,fill_tmp (by rfl) (by rw[hsz];decide),fill_tmp (by rfl) (by rw[hsz];decide)]) (fun us w hC' hd=>?_)
   rw[show us 90=.string S from hd 4 (by decide)]
   rw[show us 92=.int .i64 n from hd 6 (by decide)]
   exact (hA w).mono (by rintro e w' ⟨rfl,h⟩;rw[h];exact ⟨_,rfl,grown_refl _ _,rfl⟩)
 ·intro us w' hC' hd
  refine wpList_store_row (by rfl) 63 (.tmp 4) (.tmp 88) (by rfl) (g+1) #[.int .i64 0,.int .i64 0,.bool false,.slice none 0 0,.string S] ((fill_old (by rfl)).trans h4) ((fill_tmp (by rfl) (by rw[hsz];decide)).trans (hd 2 (by decide))) _ _ (hB w' hC') hI5 rfl (dr_one5 _ _ _ _ _ _ _) ?_
  exact wpList_last rfl (assign_val rfl ((fill_tmp (by rfl) (by rw[hsz];decide)).trans (hd 7 (by decide)))) (hQ us w' hC')
theorem dr_arcs {b:List Nat} {l:List Int} (h:Od.get b=.ok l):l.length≤2000∧∀ n∈l,0≤n∧n≤2147483647:=by
 have hr:Od.right l=true:=by
  unfold Od.get at h
  split at h
  ·cases h
  ·cases h
  ·simp only at h
   split at h
   ·cases h;assumption
   ·cases h
 obtain ⟨⟨_,h2,_⟩,h3⟩:=(Od.right_iff l).1 hr
 exact ⟨by omega,h3⟩
theorem refSaid_8 {w:World} (v:Value) (b:List Nat) (tag least most:Int) (hbl:b.length≤100000) (hB:Bytes w v b) :
  Calls Tryz.prog 77 #[.agg #[.int .i64 8,.int .i64 tag,.int .i64 least,.int .i64 most],v] w fun e w'=>SaidO v b (De.said 8 least most b) w w' e:=by
 obtain ⟨R,hR⟩:∃ R,R=De.said 8 least most b:=⟨_,rfl⟩
 rw[←hR]
 unfold De.said at hR
 rw[if_neg (by decide),if_neg (by decide),if_neg (by decide),if_neg (by decide),if_pos rfl] at hR
 obtain ⟨W2,hW2⟩:∃ W2,W2=(w.alloc (.cells #[.int .i64 8,.int .i64 tag,.int .i64 least,.int .i64 most] 76)).alloc (.cells #[.int .i64 0,.int .i64 0,.bool false,.slice none 0 0,.string ⟨#[]⟩] 63):=⟨_,rfl⟩
 have hga:w.grownBy W2 none:=by rw[hW2];exact grown_alloc (World.grownBy_alloc _ _ _) _
 have b0:W2.heap[w.heap.size]?=some (.cells #[.int .i64 8,.int .i64 tag,.int .i64 least,.int .i64 most] 76 (0,0)):=by rw[hW2];exact alloc2_old _ _ _
 have b1:W2.heap[w.heap.size+1]?=some (.cells #[.int .i64 0,.int .i64 0,.bool false,.slice none 0 0,.string ⟨#[]⟩] 63 (0,0)):=by rw[hW2];exact alloc2_new _ _ _
 have hs2:W2.heap.size=w.heap.size+2:=by rw[hW2,alloc2_size]
 have HB3:Hid (∀ w3,W2.grownBy w3 none→w3.heap[w.heap.size+1]?=some (.cells #[.int .i64 0,.int .i64 0,.bool false,.slice none 0 0,.string ⟨#[]⟩] 63 (0,0))):=hid (fun w3 hg=>(hg.block _ (by omega) (by simp)).trans b1)
 have HA3:Hid (∀ w3,W2.grownBy w3 none→w3.heap[w.heap.size]?=some (.cells #[.int .i64 8,.int .i64 tag,.int .i64 least,.int .i64 most] 76 (0,0))):=hid (fun w3 hg=>(hg.block _ (by omega) (by simp)).trans b0)
 have HW2:=hid hW2
 have HI5:Hid ((Tryz.prog.info? 63).map (·.size)=some 5):=hid (by kernel_rfl)
 have hn:=refGet_any v b W2 (hB.grown hga) hbl
 have HG2:=hid (grown_refl W2 none)
 cases hw:Od.get b with
 |error k =>
  rw[hw] at hR hn
  simp only at hR
  have hk0:=oget_err hw
  have hk:((k:Nat):Int)≠0:=by omega
  have HN:Hid (Calls Tryz.prog 116 #[v] W2 fun e w'=>(∃ u,e=.returned (.tuple #[u,.int .i64 (k:Nat)]))∧W2.grownBy w' none):=hid (hn.mono (fun e w' h=>by
   obtain ⟨hg,u,he,_⟩:=h
   exact ⟨⟨u,he⟩,hg⟩))
  have HR:=hid hR
  have c0:=cell_blk (HA3.out _ HG2.out) 0 rfl
  rw[hW2] at c0
  clear hn hw hR hB hga b0 b1 hs2 hW2 hk0
  go_enter Tryz.func77,Tryz.ntmps77
  go_wp2_with (first
   |(go_at_call 116;rw[←HW2.out];refine HN.out.mono ?_;rintro e w3 ⟨⟨u,rfl⟩,hg3⟩;have HG3:=hid hg3;have d0:=cell_blk (HA3.out _ hg3) 0 rfl;have d2:=cell_blk (HA3.out _ hg3) 2 rfl;have d3:=cell_blk (HA3.out _ hg3) 3 rfl;clear hg3)
   |(refine wpList_store_row (by rfl) 63 (.tmp 4) (.tmp 103) (by rfl) (w.heap.size+1) #[.int .i64 0,.int .i64 0,.bool false,.slice none 0 0,.string ⟨#[]⟩] (by rfl) (by rfl) _ _ (HB3.out _ HG3.out) HI5.out rfl (dr_one5 _ _ _ _ _ _ _) ?_;obtain ⟨w4,hw4⟩:∃ w4,w4=w3.setRow (w.heap.size+1) #[.int .i64 0,.int .i64 0,.bool false,.slice none 0 0,.string ⟨#[]⟩]:=⟨_,rfl⟩;rw[←hw4];have hb4:w4.heap[w.heap.size+1]?=some (.cells #[.int .i64 0,.int .i64 0,.bool false,.slice none 0 0,.string ⟨#[]⟩] 63 (0,0)):=(by rw[hw4];exact setRow_heap _ _ _ _ _ _ (HB3.out _ HG3.out));have HW4:=hid hw4;have HB4:=hid hb4;clear hw4 hb4))
  refine bodyPost_ret (v:=.tuple #[.agg #[.int .i64 0,.int .i64 0,.bool false,.slice none 0 0,.string ⟨#[]⟩],.int .i64 (k:Nat)]) ?_ rfl ?_
  ·exact results_rowT Tryz.results77 _ _ (w.heap.size+1) _ _ (0,0) _ _ rfl HB4.out Tryz.underlying63 rfl HI5.out rfl
  exact saidO_err HR.out (dr_grown HW2.out HG3.out HW4.out) _ _ _ _ _
 |ok l =>
  rw[hw] at hR hn
  simp only at hR
  obtain ⟨hl1,hl2⟩:=dr_arcs hw
  have HN:Hid (Calls Tryz.prog 116 #[v] W2 fun e w'=>(∃ u,e=.returned (.tuple #[u,.int .i64 0])∧Ints w' u l)∧W2.grownBy w' none):=hid (hn.mono (fun e w' h=>by
   obtain ⟨hg,u,he,hi⟩:=h
   exact ⟨⟨u,he,hi l rfl⟩,hg⟩))
  have HT:Hid (∀ (u:Value) (W:World),Ints W u l→Calls Tryz.prog 117 #[u] W fun e w'=>e=.returned (.string (strOf (Od.text l)))∧W.grownBy w' none):=hid (fun u W h=>refOText_any u l W h hl1 hl2)
  have htx:Od.text l=strL (strOf (Od.text l)):=(strL_strOf (text_lt l hl2)).symm
  have HR:Hid (R=.ok { De.none0 with t:=strL (strOf (Od.text l)) }):=hid (by rw[←htx];exact hR)
  obtain ⟨S,hS⟩:∃ S,S=strOf (Od.text l):=⟨_,rfl⟩
  rw[←hS] at HT HR
  have c0:=cell_blk (HA3.out _ HG2.out) 0 rfl
  rw[hW2] at c0
  clear hn hw hR hB hga b0 b1 hs2 hW2 hl1 hl2 htx hS
  go_enter Tryz.func77,Tryz.ntmps77
  go_wp2_with (first
   |(go_at_call 116;rw[←HW2.out];refine HN.out.mono ?_;rintro e w2 ⟨⟨u,rfl,hi⟩,hg3⟩;have HG1:=hid hg3;have z0:=cell_blk (HA3.out _ hg3) 0 rfl;have z2:=cell_blk (HA3.out _ hg3) 2 rfl;have z3:=cell_blk (HA3.out _ hg3) 3 rfl;have HI:=hid hi;clear hg3 hi)
   |(go_at_call 117;refine (HT.out _ _ HI.out).mono ?_;rintro e w3 ⟨rfl,hg3⟩;have HG3:=hid (grown_trans HG1.out hg3);clear hg3)
   |(refine wpList_store_row (by rfl) 63 (.tmp 4) (.tmp 107) (by rfl) (w.heap.size+1) #[.int .i64 0,.int .i64 0,.bool false,.slice none 0 0,.string S] (by rfl) (by rfl) _ _ (HB3.out _ HG3.out) HI5.out rfl (dr_one5 _ _ _ _ _ _ _) ?_;obtain ⟨w4,hw4⟩:∃ w4,w4=w3.setRow (w.heap.size+1) #[.int .i64 0,.int .i64 0,.bool false,.slice none 0 0,.string S]:=⟨_,rfl⟩;rw[←hw4];have hb4:w4.heap[w.heap.size+1]?=some (.cells #[.int .i64 0,.int .i64 0,.bool false,.slice none 0 0,.string S] 63 (0,0)):=(by rw[hw4];exact setRow_heap _ _ _ _ _ _ (HB3.out _ HG3.out));have HW4:=hid hw4;have HB4:=hid hb4;clear hw4 hb4))
  refine bodyPost_ret (v:=.tuple #[.agg #[.int .i64 0,.int .i64 0,.bool false,.slice none 0 0,.string S],.int .i64 0]) ?_ rfl ?_
  ·exact results_rowT Tryz.results77 _ _ (w.heap.size+1) _ _ (0,0) _ _ rfl HB4.out Tryz.underlying63 rfl HI5.out rfl
  rw[HR.out]
  exact ⟨dr_grown HW2.out HG3.out HW4.out,_,_,_,_,_,_,rfl,fun x h=>by cases h;exact ⟨rfl,rfl,rfl,rfl,.inl ⟨rfl,rfl⟩⟩⟩
theorem dr_calget_err {l:List Nat} {k:Nat} (h:Cal.get l=.error k):k≠0:=by
 unfold Cal.get at h
 (repeat' split at h) <;> first|(cases h;decide)|cases h
theorem refSaid_7 {w:World} (v:Value) (b:List Nat) (tag least most:Int) (hbl:b.length≤1000000) (hB:Bytes w v b) :
  Calls Tryz.prog 77 #[.agg #[.int .i64 7,.int .i64 tag,.int .i64 least,.int .i64 most],v] w fun e w'=>SaidO v b (De.said 7 least most b) w w' e:=by
 obtain ⟨R,hR⟩:∃ R,R=De.said 7 least most b:=⟨_,rfl⟩
 rw[←hR]
 unfold De.said at hR
 rw[if_neg (by decide),if_neg (by decide),if_neg (by decide),if_pos rfl] at hR
 obtain ⟨W2,hW2⟩:∃ W2,W2=(w.alloc (.cells #[.int .i64 7,.int .i64 tag,.int .i64 least,.int .i64 most] 76)).alloc (.cells #[.int .i64 0,.int .i64 0,.bool false,.slice none 0 0,.string ⟨#[]⟩] 63):=⟨_,rfl⟩
 have hga:w.grownBy W2 none:=by rw[hW2];exact grown_alloc (World.grownBy_alloc _ _ _) _
 have b0:W2.heap[w.heap.size]?=some (.cells #[.int .i64 7,.int .i64 tag,.int .i64 least,.int .i64 most] 76 (0,0)):=by rw[hW2];exact alloc2_old _ _ _
 have b1:W2.heap[w.heap.size+1]?=some (.cells #[.int .i64 0,.int .i64 0,.bool false,.slice none 0 0,.string ⟨#[]⟩] 63 (0,0)):=by rw[hW2];exact alloc2_new _ _ _
 have hs2:W2.heap.size=w.heap.size+2:=by rw[hW2,alloc2_size]
 have HB3:Hid (∀ w3,W2.grownBy w3 none→w3.heap[w.heap.size+1]?=some (.cells #[.int .i64 0,.int .i64 0,.bool false,.slice none 0 0,.string ⟨#[]⟩] 63 (0,0))):=hid (fun w3 hg=>(hg.block _ (by omega) (by simp)).trans b1)
 have HA3:Hid (∀ w3,W2.grownBy w3 none→w3.heap[w.heap.size]?=some (.cells #[.int .i64 7,.int .i64 tag,.int .i64 least,.int .i64 most] 76 (0,0))):=hid (fun w3 hg=>(hg.block _ (by omega) (by simp)).trans b0)
 have HW2:=hid hW2
 have HI5:Hid ((Tryz.prog.info? 63).map (·.size)=some 5):=hid (by kernel_rfl)
 have HG2:=hid (grown_refl W2 none)
 have hb8:=hB.1
 have hSb:strL (strOf b)=b:=strL_strOf hb8
 have HCv:Hid (∀ W,w.grownBy W none→(convert 33 9 v).run Tryz.prog W=.ok (.string (strOf b)) W):=hid (fun W hW=>conv_bytes (hB.grown hW) _ _ _ Tryz.underlying33 Tryz.underlying5 Tryz.underlying9)
 have HAs:Hid (∀ W,Calls Tryz.prog 95 #[.string (strOf b),.int .i64 most] W fun e w'=>e=.returned (.int .i64 ((Pt.asked b most:Nat):Int))∧w'=W):=hid (fun W=>by
  have:=refAsked_any (strOf b) most (by rw[strOf_size];exact hbl) W
  rwa [hSb] at this)
 have HR:Hid (R=if Pt.asked b most=0 then .ok { De.none0 with t:=strL (strOf b) } else .error (Pt.asked b most)):=hid (by rw[hSb];exact hR)
 obtain ⟨K,hK⟩:∃ K,K=Pt.asked b most:=⟨_,rfl⟩
 obtain ⟨S,hS⟩:∃ S,S=strOf b:=⟨_,rfl⟩
 rw[←hK,←hS] at HR
 rw[←hK,←hS] at HAs
 rw[←hS] at HCv
 have HL3:Hid (∀ W,W2.grownBy W none→(Instr.loadAt 3 (.pointer (some ⟨w.heap.size,3,none⟩))).run Tryz.prog W=.ok (.int .i64 most) W):=hid (fun W hW=>loadI (cell_blk (HA3.out _ hW) 3 rfl))
 have HGa:=hid hga
 have c0:=cell_blk (HA3.out _ HG2.out) 0 rfl
 rw[hW2] at c0
 clear hga b0 b1 hs2 hW2 hR hB hb8 hSb hK hS
 go_enter Tryz.func77,Tryz.ntmps77
 go_wp2
 rw[←HW2.out]
 refine sd_region _ v w.heap.size S most K W2 _ _ rfl rfl rfl rfl (fun W hW=>HCv.out _ (grown_trans HGa.out hW)) (fun W=>by simp[go_sem]) (fun W hW=>HL3.out _ hW) HAs.out (fun W hW=>HB3.out _ hW) HI5.out ⟨rfl,rfl,rfl,Nat.le_refl _,fun _ _ _=>rfl⟩ (fun us w3 hg3=>?_)
 simp only[fill_cons,fill_nil,Act.put,List.setIfInBounds_toArray,List.set_cons_succ,List.set_cons_zero]
 obtain ⟨w4,hw4⟩:∃ w4,w4=w3.setRow (w.heap.size+1) #[.int .i64 0,.int .i64 0,.bool false,.slice none 0 0,.string S]:=⟨_,rfl⟩
 rw[←hw4]
 have HB4:Hid (w4.heap[w.heap.size+1]?=some (.cells #[.int .i64 0,.int .i64 0,.bool false,.slice none 0 0,.string S] 63 (0,0))):=hid (by rw[hw4];exact setRow_heap _ _ _ _ _ _ (HB3.out _ hg3))
 have HG4:=hid (dr_grown HW2.out hg3 hw4)
 clear hg3 hw4
 go_wp2
 refine bodyPost_ret (v:=.tuple #[.agg #[.int .i64 0,.int .i64 0,.bool false,.slice none 0 0,.string S],.int .i64 (K:Nat)]) ?_ rfl ?_
 ·exact results_rowT Tryz.results77 _ _ (w.heap.size+1) _ _ (0,0) _ _ rfl HB4.out Tryz.underlying63 rfl HI5.out rfl
 by_cases hk:K=0
 ·have hr:=HR.out
  rw[if_pos hk] at hr
  subst hk
  rw[hr]
  exact ⟨HG4.out,_,_,_,_,_,_,rfl,fun x h=>by cases h;exact ⟨rfl,rfl,rfl,rfl,.inl ⟨rfl,rfl⟩⟩⟩
 ·exact saidO_err (by rw[HR.out,if_neg hk]) HG4.out _ _ _ _ _
end Go.Proofs.YtijkaknggdaajaaGreatDoor
