import Derived.Test.YtjjbkpjjmbfdhaaGreatDoorZb01
import Derived.RangeFuncNested
import Derived.RangeFuncLeaves
import Derived.Test.YtjjbkpjjmbfdhaaGreatDoorChecked
import Derived.WalkKit
import Derived.Lib.Hide
import Derived.LaidEql
import Derived.Stop.Asserts
import Derived.RowKitTokens
import Derived.BigQuiet
import Derived.Handy
import Derived.Shelf.SlGeneric
import Derived.Shelf.SlSortCmp.WholeK
import Derived.Shelf.SlLaysF0
import Derived.Test.YtjjbkpjjmbfdhaaGreatDoorProg
set_option linter.unusedVariables false
set_option linter.unusedSimpArgs false
set_option maxRecDepth 100000
set_option maxHeartbeats 1000000
namespace Go.Proofs.YtjjbkpjjmbfdhaaGreatDoor
open Lib (hid)
open Go.RowKit
variable {P:Program}
structure KeepsP (p:Nat→Prop) (W W':World):Prop where
 os:W'.os=W.os
 tape:W'.tape=W.tape
 output:W'.output=W.output
 size:W.heap.size≤W'.heap.size
 same:∀ r,p r→W'.heap[r]?=W.heap[r]?
theorem KeepsP.trans {p:Nat→Prop} {A B C:World} (h:KeepsP p A B) (k:KeepsP p B C):KeepsP p A C:=⟨k.os.trans h.os,k.tape.trans h.tape,k.output.trans h.output,Nat.le_trans h.size k.size,fun r hr=>(k.same r hr).trans (h.same r hr)⟩
theorem KeepsP.mono {p q:Nat→Prop} {A B:World} (h:KeepsP p A B) (hq:∀ r,q r→p r):KeepsP q A B:=⟨h.os,h.tape,h.output,h.size,fun r hr=>h.same r (hq r hr)⟩
def Bears {α:Type} (p:Nat→Prop) (J:List α→World→Prop):Prop:=∀ s A B row,J s A→A.grownBy B row→(∀ r,row=some r→p r)→J s B
theorem Bears.mono {α:Type} {p q:Nat→Prop} {J:List α→World→Prop} (h:Bears p J) (hq:∀ r,q r→p r):Bears q J:=fun s A B row hs hg hr=>h s A B row hs hg (fun r e=>hq r (hr r e))
def YieldP (P:Program) (l:Nat) (args:Array Value) (W:World) (R:Ending→World→Prop):Prop :=
 ∃ fn tmps assign body,(Instr.yield l args).run P W=.ok (.round l fn tmps assign body) W∧∀ n,RoundIn Fence.wide n P l fn tmps assign body W R
theorem YieldP.mono {l:Nat} {args:Array Value} {W:World} {R R':Ending→World→Prop} (h:YieldP P l args W R) (hr:∀ e w,R e w→R' e w):YieldP P l args W R':=by
 obtain ⟨fn,tmps,assign,body,hy,hR⟩:=h
 exact ⟨fn,tmps,assign,body,hy,fun n=>(hR n).mono hr⟩
def cmpI (x y:Int):Int:=if x<y then -1 else if y<x then 1 else 0
theorem isNaN_any (x:Int) (w:World):Calls Tryz.prog 120 #[.int .i64 x] w fun e w'=>e=.returned (.bool false)∧w'=w:=by
 have hb:(x != x)=false:=by simp
 go_enter Tryz.func120,Tryz.ntmps120
 go_wp2
 go_ret
 exact ⟨rfl,rfl⟩
theorem cmpInt_any (x y:Int) (w:World):Calls Tryz.prog 86 #[.int .i64 x,.int .i64 y] w fun e w'=>e=.returned (.int .i64 (cmpI x y))∧w'=w:=by
 have HN:=hid (fun (z:Int) (W:World)=>isNaN_any z W)
 have H1:x<y→Hid (cmpI x y=-1):=fun h=>by rw[cmpI,if_pos h];exact rfl
 have H2:¬ x<y→y<x→Hid (cmpI x y=1):=fun h h'=>by rw[cmpI,if_neg h,if_pos h'];exact rfl
 have H3:¬ x<y→¬ y<x→Hid (cmpI x y=0):=fun h h'=>by rw[cmpI,if_neg h,if_neg h'];exact rfl
 by_cases hxy:x<y
 ·have HX:=H1 hxy
  clear H1 H2 H3
  generalize cmpI x y=c at *
  go_enter Tryz.func86,Tryz.ntmps86
  go_wp2_with (go_at_call 120;refine (HN.out _ _).mono ?_;rintro e w1 ⟨rfl,rfl⟩)
  go_ret
  exact ⟨by rw[HX.out];rfl,rfl⟩
 ·by_cases hyx:y<x
  ·have HX:=H2 hxy hyx
   clear H1 H2 H3
   generalize cmpI x y=c at *
   go_enter Tryz.func86,Tryz.ntmps86
   go_wp2_with (go_at_call 120;refine (HN.out _ _).mono ?_;rintro e w1 ⟨rfl,rfl⟩)
   go_ret
   exact ⟨by rw[HX.out];rfl,rfl⟩
  ·have HX:=H3 hxy hyx
   clear H1 H2 H3
   generalize cmpI x y=c at *
   go_enter Tryz.func86,Tryz.ntmps86
   go_wp2_with (go_at_call 120;refine (HN.out _ _).mono ?_;rintro e w1 ⟨rfl,rfl⟩)
   go_ret
   exact ⟨by rw[HX.out];rfl,rfl⟩
end Go.Proofs.YtjjbkpjjmbfdhaaGreatDoor
namespace Go.Proofs.YtjjbkpjjmbfdhaaGreatDoor
open Lib (hid)
open Go.RowKit Go.Extern.Stop Go.Stop Go.Extern
noncomputable def rtypeOf:Value:=.agg #[.pointer (some ⟨Tryz.prog.globals.size,244,none⟩)]
theorem isTypeOf (v:Value) (w:World):(Extern.ReflectliteType.typeOf #[.iface 244 v]).run Tryz.prog w=.ok (.iface 159 rtypeOf) w:=by kernel_rfl
noncomputable def cmpEntry:Array Value→Sem Value:=Extern.ReflectliteType.method fun t=>do Extern.Rtype.noPackHeld "Comparable" t;pure (.bool (←typeInfo t).comparable)
theorem isComparable (w:World):(cmpEntry #[rtypeOf]).run Tryz.prog w=.ok (.bool true) w:=by kernel_rfl
theorem isMethod (n:Nat) (v:Value) (w:World):(Go.method (n+1) 159 v "Comparable").run Tryz.prog w=.ok (218,v) w:=by kernel_rfl
theorem isComp:(Tryz.prog.info? 244).map (·.comparable)=some true:=by kernel_rfl
theorem isSize:(Tryz.prog.info? 268).map (·.size)=some 1:=by kernel_rfl
theorem noIsE (v:Value) (xT:TypeId) (w:World):(Instr.typeAssert (.iface 244 v) xT 161 true).run Tryz.prog w=.ok (.tuple #[.nilIface,.bool false]) w:=run_typeAssert_lacksB Tryz.underlying161 (by kernel_rfl) (by kernel_rfl) v xT w
theorem noUnwrapE (v:Value) (xT:TypeId) (w:World):(Instr.typeAssert (.iface 244 v) xT 164 true).run Tryz.prog w=.ok (.tuple #[.nilIface,.bool false]) w:=run_typeAssert_lacksB Tryz.underlying164 (by kernel_rfl) (by kernel_rfl) v xT w
theorem noUnwrapsE (v:Value) (xT:TypeId) (w:World):(Instr.typeAssert (.iface 244 v) xT 165 true).run Tryz.prog w=.ok (.tuple #[.nilIface,.bool false]) w:=run_typeAssert_lacksB Tryz.underlying165 (by kernel_rfl) (by kernel_rfl) v xT w
theorem is_same (a:Addr) (w:World) :
  Calls Tryz.prog 33 #[.iface 244 (.pointer (some a)),.iface 244 (.pointer (some a))] w fun e w'=>e=.returned (.bool true)∧w'=w:=by
 obtain ⟨i,hi,hcmp⟩:=Option.map_eq_some_iff.1 isComp
 obtain ⟨j,hj,hjs⟩:=Option.map_eq_some_iff.1 isSize
 have h8:=@run_callFunc_extern Tryz.prog 74 _ Extern.ReflectliteType.typeOf Tryz.func74 (by kernel_rfl) (by kernel_rfl) (by kernel_rfl) (by kernel_rfl)
 have h32:=@run_callFunc_extern Tryz.prog 218 _ cmpEntry Tryz.func218 (by kernel_rfl) (by kernel_rfl) (by kernel_rfl) (by kernel_rfl)
 have tT:=isTypeOf
 have cT:=isComparable
 have mR:=isMethod
 have heq:=run_eql_iface_ptr_same (P:=Tryz.prog) w a Tryz.underlying29 Tryz.underlying244 hi hcmp hj
 go_enter Tryz.func33,Tryz.ntmps33
 go_wp2
 refine wp_loop_rounds 1 ?_
 rw[rounds_succ]
 go_wp2
 go_ret
 exact ⟨rfl,rfl⟩
theorem is_other (a b:Addr) (ca cb:Array Value) (ta tb:TypeId) (w:World) (hne:a≠b) (ha:w.heap[a.block]?=some (.cells ca ta (0,0))) (hb:w.heap[b.block]?=some (.cells cb tb (0,0))) :
  Calls Tryz.prog 33 #[.iface 244 (.pointer (some a)),.iface 244 (.pointer (some b))] w fun e w'=>e=.returned (.bool false)∧w'=w:=by
 obtain ⟨i,hi,hcmp⟩:=Option.map_eq_some_iff.1 isComp
 obtain ⟨j,hj,hjs⟩:=Option.map_eq_some_iff.1 isSize
 have h8:=@run_callFunc_extern Tryz.prog 74 _ Extern.ReflectliteType.typeOf Tryz.func74 (by kernel_rfl) (by kernel_rfl) (by kernel_rfl) (by kernel_rfl)
 have h32:=@run_callFunc_extern Tryz.prog 218 _ cmpEntry Tryz.func218 (by kernel_rfl) (by kernel_rfl) (by kernel_rfl) (by kernel_rfl)
 have tT:=isTypeOf
 have cT:=isComparable
 have mR:=isMethod
 have nE:=noIsE
 have uE:=noUnwrapE
 have vE:=noUnwrapsE
 have heq:=run_eql_iface_ptr_other (P:=Tryz.prog) w Tryz.underlying29 Tryz.underlying244 hi hcmp hj (by rw[hjs];decide) hne ha hb
 go_enter Tryz.func33,Tryz.ntmps33
 go_wp2
 refine wp_loop_rounds 1 ?_
 rw[rounds_succ]
 go_wp2
 go_ret
 exact ⟨rfl,rfl⟩
end Go.Proofs.YtjjbkpjjmbfdhaaGreatDoor
namespace Go.Proofs.YtjjbkpjjmbfdhaaGreatDoor
open Lib (hid)
open Go.RowKit
def errVars:List Nat:=[1,2,3,0,4,5,6,7,8,9,10,11,12,13,14,15,16,17,18,19,20,21,22,23,24,25,26,27]
structure AllErrs (w:World) (A:Nat→Addr):Prop where
 at_:∀ i,i<28→w.cell? ⟨errVars.getD i 0,0,none⟩=some (.iface 244 (.pointer (some (A i))))
 lt:∀ i,i<28→errVars.getD i 0<w.heap.size
 there:∀ i,i<28→∃ cs t,w.heap[(A i).block]?=some (.cells cs t (0,0))
 apart:∀ i j,i<28→j<28→i≠j→A i≠A j
theorem AllErrs.grown {w w':World} {A:Nat→Addr} (h:AllErrs w A) (hg:w.grownBy w' none):AllErrs w' A :=
 ⟨fun i hi=>by rw[World.cell?_of_block (hg.block _ (h.lt i hi) (by simp))];exact h.at_ i hi,fun i hi=>Nat.lt_of_lt_of_le (h.lt i hi) hg.size,
 fun i hi=>by obtain ⟨cs,t,hb⟩:=h.there i hi;exact ⟨cs,t,(hg.block _ (blk_lt hb) (by simp)).trans hb⟩,h.apart⟩
theorem num_nil (w:World):Calls Tryz.prog 11 #[.nilIface] w fun e w'=>e=.returned (.int .i64 0)∧w'=w:=by
 go_enter Tryz.func11,Tryz.ntmps11
 go_wp2
 go_ret
 exact ⟨rfl,rfl⟩
theorem num_err (A:Nat→Addr) (i:Nat) (hi:i<28) (w:World) (hA:AllErrs w A) :
  Calls Tryz.prog 11 #[.iface 244 (.pointer (some (A i)))] w fun e w'=>e=.returned (.int .i64 ((i+1:Nat):Int))∧w.grownBy w' none:=by
 have e0:=hA.at_ 0 (by decide)
 have e1:=hA.at_ 1 (by decide)
 have e2:=hA.at_ 2 (by decide)
 have e3:=hA.at_ 3 (by decide)
 have e4:=hA.at_ 4 (by decide)
 have e5:=hA.at_ 5 (by decide)
 have e6:=hA.at_ 6 (by decide)
 have e7:=hA.at_ 7 (by decide)
 have e8:=hA.at_ 8 (by decide)
 have e9:=hA.at_ 9 (by decide)
 have e10:=hA.at_ 10 (by decide)
 have e11:=hA.at_ 11 (by decide)
 have e12:=hA.at_ 12 (by decide)
 have e13:=hA.at_ 13 (by decide)
 have e14:=hA.at_ 14 (by decide)
 have e15:=hA.at_ 15 (by decide)
 have e16:=hA.at_ 16 (by decide)
 have e17:=hA.at_ 17 (by decide)
 have e18:=hA.at_ 18 (by decide)
 have e19:=hA.at_ 19 (by decide)
 have e20:=hA.at_ 20 (by decide)
 have e21:=hA.at_ 21 (by decide)
 have e22:=hA.at_ 22 (by decide)
 have e23:=hA.at_ 23 (by decide)
 have e24:=hA.at_ 24 (by decide)
 have e25:=hA.at_ 25 (by decide)
 have e26:=hA.at_ 26 (by decide)
 have e27:=hA.at_ 27 (by decide)
 simp only[errVars,List.getD_cons_zero,List.getD_cons_succ] at e0 e1 e2 e3 e4 e5 e6 e7 e8 e9 e10 e11 e12 e13 e14 e15 e16 e17 e18 e19 e20 e21 e22 e23 e24 e25 e26 e27
 have HA:=hid hA
 obtain ⟨w1,hw1⟩:∃ w1,w1=w.alloc (.cells #[.iface 244 (.pointer (some (A 0))),.iface 244 (.pointer (some (A 1))),.iface 244 (.pointer (some (A 2))),.iface 244 (.pointer (some (A 3))),.iface 244 (.pointer (some (A 4))),.iface 244 (.pointer (some (A 5))),.iface 244 (.pointer (some (A 6))),.iface 244 (.pointer (some (A 7))),.iface 244 (.pointer (some (A 8))),.iface 244 (.pointer (some (A 9))),.iface 244 (.pointer (some (A 10))),.iface 244 (.pointer (some (A 11))),.iface 244 (.pointer (some (A 12))),.iface 244 (.pointer (some (A 13))),.iface 244 (.pointer (some (A 14))),.iface 244 (.pointer (some (A 15))),.iface 244 (.pointer (some (A 16))),.iface 244 (.pointer (some (A 17))),.iface 244 (.pointer (some (A 18))),.iface 244 (.pointer (some (A 19))),.iface 244 (.pointer (some (A 20))),.iface 244 (.pointer (some (A 21))),.iface 244 (.pointer (some (A 22))),.iface 244 (.pointer (some (A 23))),.iface 244 (.pointer (some (A 24))),.iface 244 (.pointer (some (A 25))),.iface 244 (.pointer (some (A 26))),.iface 244 (.pointer (some (A 27)))] 29):=⟨_,rfl⟩
 have G1:Hid (w.grownBy w1 none):=hid (by rw[hw1];exact World.grownBy_alloc _ _ _)
 have B1:Hid (∀ k,k<28→w1.cell? ⟨w.heap.size,k,none⟩=some (.iface 244 (.pointer (some (A k))))):=hid (fun k hk=>by
  rw[hw1]
  refine cell_blk (alloc_at w _) k ?_
  match k,hk with
  |0,_=>rfl
  |1,_=>rfl
  |2,_=>rfl
  |3,_=>rfl
  |4,_=>rfl
  |5,_=>rfl
  |6,_=>rfl
  |7,_=>rfl
  |8,_=>rfl
  |9,_=>rfl
  |10,_=>rfl
  |11,_=>rfl
  |12,_=>rfl
  |13,_=>rfl
  |14,_=>rfl
  |15,_=>rfl
  |16,_=>rfl
  |17,_=>rfl
  |18,_=>rfl
  |19,_=>rfl
  |20,_=>rfl
  |21,_=>rfl
  |22,_=>rfl
  |23,_=>rfl
  |24,_=>rfl
  |25,_=>rfl
  |26,_=>rfl
  |27,_=>rfl
  |n+28,h=>omega)
 have HS:Hid (∀ w',w.grownBy w' none→Calls Tryz.prog 33 #[.iface 244 (.pointer (some (A i))),.iface 244 (.pointer (some (A i)))] w' fun e w''=>e=.returned (.bool true)∧w''=w'):=hid (fun w' _=>is_same (A i) w')
 have HO:Hid (∀ k w',k<28→k≠i→w.grownBy w' none→Calls Tryz.prog 33 #[.iface 244 (.pointer (some (A i))),.iface 244 (.pointer (some (A k)))] w' fun e w''=>e=.returned (.bool false)∧w''=w'):=hid (fun k w' hk hne hg=>by
  obtain ⟨c1,t1,h1⟩:=(hA.grown hg).there i hi
  obtain ⟨c2,t2,h2⟩:=(hA.grown hg).there k hk
  exact is_other (A i) (A k) c1 c2 t1 t2 w' (hA.apart i k hi hk (fun e=>hne e.symm)) h1 h2)
 have HW1:=hid hw1
 clear hA hw1
 go_enter Tryz.func11,Tryz.ntmps11
 go_wp2
 rw[←HW1.out]
 clear e0 e1 e2 e3 e4 e5 e6 e7 e8 e9 e10 e11 e12 e13 e14 e15 e16 e17 e18 e19 e20 e21 e22 e23 e24 e25 e26 e27
 go_loopw [39] (fun j wr=>∃ k:Nat,k≤i∧j=.int .i64 k∧wr=w1) (fun j _=>28-(intOf j).toNat)
 case atStart=>exact ⟨0,Nat.zero_le _,rfl,rfl⟩
 case round =>
  obtain ⟨k,hk,rfl,rfl⟩:=hrel
  have c1:=B1.out k (by omega)
  by_cases hki:k=i
  ·subst hki
   go_wp2_with (go_at_call 33;refine (HS.out _ G1.out).mono ?_;rintro e w2 ⟨rfl,rfl⟩)
   go_ret
   exact ⟨by go_num,G1.out⟩
  ·go_wp2_with (go_at_call 33;refine (HO.out k _ (by omega) hki G1.out).mono ?_;rintro e w2 ⟨rfl,rfl⟩)
   go_roundw
   case rel=>exact ⟨k+1,by omega,by go_num,by trivial⟩
   case measure=>simp[intOf];omega
abbrev errV (A:Nat→Addr) (k:Nat):Value:=.iface 244 (.pointer (some (A (k-1))))
theorem errs_at {w:World} {A:Nat→Addr} (h:AllErrs w A) (k:Nat) (hk:k-1<28):w.cell? ⟨errVars.getD (k-1) 0,0,none⟩=some (errV A k):=h.at_ _ hk
theorem err_range {w:World} {A:Nat→Addr} (h:AllErrs w A):w.cell? ⟨1,0,none⟩=some (errV A 1):=errs_at h 1 (by decide)
theorem err_short {w:World} {A:Nat→Addr} (h:AllErrs w A):w.cell? ⟨2,0,none⟩=some (errV A 2):=errs_at h 2 (by decide)
theorem err_form {w:World} {A:Nat→Addr} (h:AllErrs w A):w.cell? ⟨0,0,none⟩=some (errV A 4):=errs_at h 4 (by decide)
def errOf (A:Nat→Addr) (k:Nat):Value:=if k=0 then .nilIface else errV A k
theorem num_of (A:Nat→Addr) (k:Nat) (hk:k≤28) (w:World) (hA:AllErrs w A) :
  Calls Tryz.prog 11 #[errOf A k] w fun e w'=>e=.returned (.int .i64 k)∧w.grownBy w' none:=by
 unfold errOf
 split
 ·rename_i h
  subst h
  exact (num_nil w).mono (by rintro e w' ⟨rfl,rfl⟩;exact ⟨rfl,grown_refl _ _⟩)
 ·have h:=num_err A (k-1) (by omega) w hA
  rw[show k-1+1=k by omega] at h
  exact h
theorem rdFail0e {w:World} {b:Nat} {lv ov:Value} (hb:w.heap[b]?=some (.cells #[lv,ov,.nilIface] 126 (0,0))) (A:Nat→Addr) (k:Nat):Calls Tryz.prog 88 #[.pointer (some ⟨b,0,none⟩),errV A k] w fun e w'=>e=.returned (.tuple #[])∧w'=w.setCell ⟨b,2,none⟩ (errV A k):=by
 have c0:=cell_blk hb 0 rfl
 have c1:=cell_blk hb 1 rfl
 have c2:=cell_blk hb 2 rfl
 have f2:=free_blk hb 2
 have hlt:=blk_lt hb
 go_enter Tryz.func88,Tryz.ntmps88
 go_wp2
 go_returns
 exact ⟨rfl,rfl⟩
theorem rdFail1 {w:World} {b:Nat} {lv ov:Value} {A:Nat→Addr} {k:Nat} (hb:w.heap[b]?=some (.cells #[lv,ov,errV A k] 126 (0,0))) (x:Value):Calls Tryz.prog 88 #[.pointer (some ⟨b,0,none⟩),x] w fun e w'=>e=.returned (.tuple #[])∧w'=w:=by
 have c0:=cell_blk hb 0 rfl
 have c1:=cell_blk hb 1 rfl
 have c2:=cell_blk hb 2 rfl
 have f2:=free_blk hb 2
 have hlt:=blk_lt hb
 go_enter Tryz.func88,Tryz.ntmps88
 go_wp2
 go_returns
 exact ⟨rfl,rfl⟩
theorem rdErr0 {w:World} {b:Nat} {lv ov:Value} (hb:w.heap[b]?=some (.cells #[lv,ov,.nilIface] 126 (0,0))):Calls Tryz.prog 89 #[.pointer (some ⟨b,0,none⟩)] w fun e w'=>e=.returned .nilIface∧w'=w:=by
 have c0:=cell_blk hb 0 rfl
 have c1:=cell_blk hb 1 rfl
 have c2:=cell_blk hb 2 rfl
 have f2:=free_blk hb 2
 have hlt:=blk_lt hb
 go_enter Tryz.func89,Tryz.ntmps89
 go_wp2
 go_ret
 exact ⟨rfl,rfl⟩
theorem rdErr1 {w:World} {b:Nat} {lv ov:Value} {A:Nat→Addr} {k:Nat} (hb:w.heap[b]?=some (.cells #[lv,ov,errV A k] 126 (0,0))):Calls Tryz.prog 89 #[.pointer (some ⟨b,0,none⟩)] w fun e w'=>e=.returned (errV A k)∧w'=w:=by
 have c0:=cell_blk hb 0 rfl
 have c1:=cell_blk hb 1 rfl
 have c2:=cell_blk hb 2 rfl
 have f2:=free_blk hb 2
 have hlt:=blk_lt hb
 go_enter Tryz.func89,Tryz.ntmps89
 go_wp2
 go_ret
 exact ⟨rfl,rfl⟩
theorem rdEnd1 {w:World} {b:Nat} {lv ov:Value} {A:Nat→Addr} {k:Nat} (hb:w.heap[b]?=some (.cells #[lv,ov,errV A k] 126 (0,0))):Calls Tryz.prog 45 #[.pointer (some ⟨b,0,none⟩)] w fun e w'=>e=.returned (errV A k)∧w'=w:=by
 have c0:=cell_blk hb 0 rfl
 have c1:=cell_blk hb 1 rfl
 have c2:=cell_blk hb 2 rfl
 have f2:=free_blk hb 2
 have hlt:=blk_lt hb
 go_enter Tryz.func45,Tryz.ntmps45
 go_wp2
 go_ret
 exact ⟨rfl,rfl⟩
theorem rdMore0 {w:World} {b:Nat} {ov:Value} {a:Option Addr} {n c:Nat} (hn:0<n) (hb:w.heap[b]?=some (.cells #[.slice a n c,ov,.nilIface] 126 (0,0))):Calls Tryz.prog 87 #[.pointer (some ⟨b,0,none⟩)] w fun e w'=>e=.returned (.bool true)∧w'=w:=by
 have c0:=cell_blk hb 0 rfl
 have c1:=cell_blk hb 1 rfl
 have c2:=cell_blk hb 2 rfl
 have f2:=free_blk hb 2
 have hlt:=blk_lt hb
 have hn2:(0:Int)<(n:Int):=by omega
 go_enter Tryz.func87,Tryz.ntmps87
 go_wp2
 go_ret
 exact ⟨rfl,rfl⟩
theorem rdMore1 {w:World} {b:Nat} {lv ov:Value} {A:Nat→Addr} {k:Nat} (hb:w.heap[b]?=some (.cells #[lv,ov,errV A k] 126 (0,0))):Calls Tryz.prog 87 #[.pointer (some ⟨b,0,none⟩)] w fun e w'=>e=.returned (.bool false)∧w'=w:=by
 have c0:=cell_blk hb 0 rfl
 have c1:=cell_blk hb 1 rfl
 have c2:=cell_blk hb 2 rfl
 have f2:=free_blk hb 2
 have hlt:=blk_lt hb
 go_enter Tryz.func87,Tryz.ntmps87
 go_wp2
 go_ret
 exact ⟨rfl,rfl⟩
end Go.Proofs.YtjjbkpjjmbfdhaaGreatDoor
namespace Go.Proofs
open Go.Shelf
def Tryz.laysSortK_ren:Go.Shelf.Ren:=⟨fun|6=>84|15=>119|14=>118|28=>156|29=>157|20=>148|21=>149|22=>150|23=>151|24=>152|25=>153|26=>154|27=>155|46=>178|47=>179|48=>180|49=>181|50=>182|57=>195|n=>n,fun|22=>22|24=>48|25=>134|3=>3|39=>105|0=>0|53=>209|55=>211|4=>4|46=>202|45=>201|50=>206|5=>5|9=>9|66=>222|70=>226|76=>239|77=>142|n=>n,fun|n=>n⟩
theorem Tryz.laysSortK:Go.Proofs.SlLaysF0.n6 Tryz.prog Tryz.laysSortK_ren:={
 mixed:=by kernel_rfl
 f6:=⟨Tryz.f84.name,by decide,Tryz.func84.trans (congrArg some (by kernel_rfl))⟩
 f14:=⟨Tryz.f118.name,by decide,Tryz.func118.trans (congrArg some (by kernel_rfl))⟩
 f15:=Tryz.func119.trans (congrArg some (by kernel_rfl))
 f20:=⟨Tryz.f148.name,by decide,Tryz.func148.trans (congrArg some (by kernel_rfl))⟩
 f21:=⟨Tryz.f149.name,by decide,Tryz.func149.trans (congrArg some (by kernel_rfl))⟩
 f22:=⟨Tryz.f150.name,by decide,Tryz.func150.trans (congrArg some (by kernel_rfl))⟩
 f23:=⟨Tryz.f151.name,by decide,Tryz.func151.trans (congrArg some (by kernel_rfl))⟩
 f24:=⟨Tryz.f152.name,by decide,Tryz.func152.trans (congrArg some (by kernel_rfl))⟩
 f25:=⟨Tryz.f153.name,by decide,Tryz.func153.trans (congrArg some (by kernel_rfl))⟩
 f26:=⟨Tryz.f154.name,by decide,Tryz.func154.trans (congrArg some (by kernel_rfl))⟩
 f27:=⟨Tryz.f155.name,by decide,Tryz.func155.trans (congrArg some (by kernel_rfl))⟩
 f28:=Tryz.func156.trans (congrArg some (by kernel_rfl))
 f29:=Tryz.func157.trans (congrArg some (by kernel_rfl))
 f46:=⟨Tryz.f178.name,by decide,Tryz.func178.trans (congrArg some (by kernel_rfl))⟩
 f47:=Tryz.func179.trans (congrArg some (by kernel_rfl))
 f48:=Tryz.func180.trans (congrArg some (by kernel_rfl))
 f49:=⟨Tryz.f181.name,by decide,Tryz.func181.trans (congrArg some (by kernel_rfl))⟩
 f50:=⟨Tryz.f182.name,by decide,Tryz.func182.trans (congrArg some (by kernel_rfl))⟩
 f57:=⟨Tryz.f195.name,by decide,Tryz.func195.trans (congrArg some (by kernel_rfl))⟩
 t0:=Tryz.underlying0
 a0:=Tryz.isAgg0
 z0:=Tryz.sizeOf0
 v0:=Tryz.zeroValue0
 t3:=Tryz.underlying3
 a3:=Tryz.isAgg3
 z3:=Tryz.sizeOf3
 v3:=Tryz.zeroValue3
 t4:=Tryz.underlying4
 a4:=Tryz.isAgg4
 z4:=Tryz.sizeOf4
 v4:=Tryz.zeroValue4
 t5:=Tryz.underlying5
 a5:=Tryz.isAgg5
 z5:=Tryz.sizeOf5
 v5:=Tryz.zeroValue5
 t9:=Tryz.underlying9
 a9:=Tryz.isAgg9
 z9:=Tryz.sizeOf9
 v9:=Tryz.zeroValue9
 t22:=Tryz.underlying22
 a22:=Tryz.isAgg22
 z22:=Tryz.sizeOf22
 v22:=Tryz.zeroValue22
 t25:=Tryz.underlying134
 a25:=Tryz.isAgg134
 z25:=Tryz.sizeOf134
 v25:=Tryz.zeroValue134
 t39:=Tryz.underlying105
 a39:=Tryz.isAgg105
 z39:=Tryz.sizeOf105
 v39:=Tryz.zeroValue105
 t45:=Tryz.underlying201
 a45:=Tryz.isAgg201
 z45:=Tryz.sizeOf201
 v45:=Tryz.zeroValue201
 t46:=Tryz.underlying202
 a46:=Tryz.isAgg202
 z46:=Tryz.sizeOf202
 v46:=Tryz.zeroValue202
 t50:=Tryz.underlying206
 a50:=Tryz.isAgg206
 z50:=Tryz.sizeOf206
 v50:=Tryz.zeroValue206
 t53:=Tryz.underlying209
 a53:=Tryz.isAgg209
 z53:=Tryz.sizeOf209
 v53:=Tryz.zeroValue209
 t55:=Tryz.underlying211
 a55:=Tryz.isAgg211
 z55:=Tryz.sizeOf211
 v55:=Tryz.zeroValue211
 t66:=Tryz.underlying222
 a66:=Tryz.isAgg222
 z66:=Tryz.sizeOf222
 v66:=Tryz.zeroValue222
 t70:=Tryz.underlying226
 a70:=Tryz.isAgg226
 z70:=Tryz.sizeOf226
 v70:=Tryz.zeroValue226
 t76:=Tryz.underlying239
 a76:=Tryz.isAgg239
 z76:=Tryz.sizeOf239
 v76:=Tryz.zeroValue239
 t77:=Tryz.underlying142
 a77:=Tryz.isAgg142
 z77:=Tryz.sizeOf142
 v77:=Tryz.zeroValue142 }
end Go.Proofs
