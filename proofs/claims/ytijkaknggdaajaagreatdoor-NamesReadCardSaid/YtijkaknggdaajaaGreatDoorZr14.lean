import Derived.Test.YtijkaknggdaajaaGreatDoorZr03
import Derived.Test.YtijkaknggdaajaaGreatDoorChecked
import Derived.WalkKit
import Derived.LaidEql
import Derived.Stop.Asserts
import Derived.RowKitTokens
import Derived.Lib.Hide
import Derived.BigQuiet
import Derived.Handy
set_option linter.unusedVariables false
set_option linter.unusedSimpArgs false
set_option maxRecDepth 100000
set_option maxHeartbeats 1000000
namespace Go.Proofs.YtijkaknggdaajaaGreatDoor
open Lib (hid)
open Go.RowKit Go.Extern.Stop Go.Stop Go.Extern
noncomputable def rtypeOf:Value:=.agg #[.pointer (some ⟨Tryz.prog.globals.size,282,none⟩)]
theorem isTypeOf (v:Value) (w:World):(Extern.ReflectliteType.typeOf #[.iface 282 v]).run Tryz.prog w=.ok (.iface 180 rtypeOf) w:=by kernel_rfl
noncomputable def cmpEntry:Array Value→Sem Value:=Extern.ReflectliteType.method fun t=>do Extern.Rtype.noPackHeld "Comparable" t;pure (.bool (←typeInfo t).comparable)
theorem isComparable (w:World):(cmpEntry #[rtypeOf]).run Tryz.prog w=.ok (.bool true) w:=by kernel_rfl
theorem isMethod (n:Nat) (v:Value) (w:World):(Go.method (n+1) 180 v "Comparable").run Tryz.prog w=.ok (258,v) w:=by kernel_rfl
theorem isComp:(Tryz.prog.info? 282).map (·.comparable)=some true:=by kernel_rfl
theorem isSize:(Tryz.prog.info? 284).map (·.size)=some 1:=by kernel_rfl
theorem noIsE (v:Value) (xT:TypeId) (w:World):(Instr.typeAssert (.iface 282 v) xT 182 true).run Tryz.prog w=.ok (.tuple #[.nilIface,.bool false]) w:=run_typeAssert_lacksB Tryz.underlying182 (by kernel_rfl) (by kernel_rfl) v xT w
theorem noUnwrapE (v:Value) (xT:TypeId) (w:World):(Instr.typeAssert (.iface 282 v) xT 185 true).run Tryz.prog w=.ok (.tuple #[.nilIface,.bool false]) w:=run_typeAssert_lacksB Tryz.underlying185 (by kernel_rfl) (by kernel_rfl) v xT w
theorem noUnwrapsE (v:Value) (xT:TypeId) (w:World):(Instr.typeAssert (.iface 282 v) xT 186 true).run Tryz.prog w=.ok (.tuple #[.nilIface,.bool false]) w:=run_typeAssert_lacksB Tryz.underlying186 (by kernel_rfl) (by kernel_rfl) v xT w
theorem is_same (a:Addr) (w:World) :
  Calls Tryz.prog 46 #[.iface 282 (.pointer (some a)),.iface 282 (.pointer (some a))] w fun e w'=>e=.returned (.bool true)∧w'=w:=by
 obtain ⟨i,hi,hcmp⟩:=Option.map_eq_some_iff.1 isComp
 obtain ⟨j,hj,hjs⟩:=Option.map_eq_some_iff.1 isSize
 have h8:=@run_callFunc_extern Tryz.prog 87 _ Extern.ReflectliteType.typeOf Tryz.func87 (by kernel_rfl) (by kernel_rfl) (by kernel_rfl) (by kernel_rfl)
 have h32:=@run_callFunc_extern Tryz.prog 258 _ cmpEntry Tryz.func258 (by kernel_rfl) (by kernel_rfl) (by kernel_rfl) (by kernel_rfl)
 have tT:=isTypeOf
 have cT:=isComparable
 have mR:=isMethod
 have heq:=run_eql_iface_ptr_same (P:=Tryz.prog) w a Tryz.underlying28 Tryz.underlying282 hi hcmp hj
 go_enter Tryz.func46,Tryz.ntmps46
 go_wp2
 refine wp_loop_rounds 1 ?_
 rw[rounds_succ]
 go_wp2
 go_ret
 exact ⟨rfl,rfl⟩
theorem is_other (a b:Addr) (ca cb:Array Value) (ta tb:TypeId) (w:World) (hne:a≠b) (ha:w.heap[a.block]?=some (.cells ca ta (0,0))) (hb:w.heap[b.block]?=some (.cells cb tb (0,0))) :
  Calls Tryz.prog 46 #[.iface 282 (.pointer (some a)),.iface 282 (.pointer (some b))] w fun e w'=>e=.returned (.bool false)∧w'=w:=by
 obtain ⟨i,hi,hcmp⟩:=Option.map_eq_some_iff.1 isComp
 obtain ⟨j,hj,hjs⟩:=Option.map_eq_some_iff.1 isSize
 have h8:=@run_callFunc_extern Tryz.prog 87 _ Extern.ReflectliteType.typeOf Tryz.func87 (by kernel_rfl) (by kernel_rfl) (by kernel_rfl) (by kernel_rfl)
 have h32:=@run_callFunc_extern Tryz.prog 258 _ cmpEntry Tryz.func258 (by kernel_rfl) (by kernel_rfl) (by kernel_rfl) (by kernel_rfl)
 have tT:=isTypeOf
 have cT:=isComparable
 have mR:=isMethod
 have nE:=noIsE
 have uE:=noUnwrapE
 have vE:=noUnwrapsE
 have heq:=run_eql_iface_ptr_other (P:=Tryz.prog) w Tryz.underlying28 Tryz.underlying282 hi hcmp hj (by rw[hjs];decide) hne ha hb
 go_enter Tryz.func46,Tryz.ntmps46
 go_wp2
 refine wp_loop_rounds 1 ?_
 rw[rounds_succ]
 go_wp2
 go_ret
 exact ⟨rfl,rfl⟩
end Go.Proofs.YtijkaknggdaajaaGreatDoor
namespace Go.Proofs.YtijkaknggdaajaaGreatDoor
open Lib (hid)
open Go.RowKit
def errVars:List Nat:=[2,3,4,5,6,7,8,9,0,10,11,12,13,14,15,16,17,18,19,20,21,22,23,24,25,26,27,28]
structure AllErrs (w:World) (A:Nat→Addr):Prop where
 at_:∀ i,i<28→w.cell? ⟨errVars.getD i 0,0,none⟩=some (.iface 282 (.pointer (some (A i))))
 lt:∀ i,i<28→errVars.getD i 0<w.heap.size
 there:∀ i,i<28→∃ cs t,w.heap[(A i).block]?=some (.cells cs t (0,0))
 apart:∀ i j,i<28→j<28→i≠j→A i≠A j
theorem AllErrs.grown {w w':World} {A:Nat→Addr} (h:AllErrs w A) (hg:w.grownBy w' none):AllErrs w' A :=
 ⟨fun i hi=>by rw[World.cell?_of_block (hg.block _ (h.lt i hi) (by simp))];exact h.at_ i hi,fun i hi=>Nat.lt_of_lt_of_le (h.lt i hi) hg.size,
 fun i hi=>by obtain ⟨cs,t,hb⟩:=h.there i hi;exact ⟨cs,t,(hg.block _ (blk_lt hb) (by simp)).trans hb⟩,h.apart⟩
theorem num_nil (w:World):Calls Tryz.prog 13 #[.nilIface] w fun e w'=>e=.returned (.int .i64 0)∧w'=w:=by
 go_enter Tryz.func13,Tryz.ntmps13
 go_wp2
 go_ret
 exact ⟨rfl,rfl⟩
theorem num_err (A:Nat→Addr) (i:Nat) (hi:i<28) (w:World) (hA:AllErrs w A) :
  Calls Tryz.prog 13 #[.iface 282 (.pointer (some (A i)))] w fun e w'=>e=.returned (.int .i64 ((i+1:Nat):Int))∧w.grownBy w' none:=by
 have e0:=hA.at_ 0 (by decide)
 have e1:=hA.at_ 1 (by decide)
 have e2:=hA.at_ 2 (by decide)
 have e3:=hA.at_ 3 (by decide)
 have e4:=hA.at_ 4 (by decide)
 have e5:=hA.at_ 5 (by decide)
 have e6:=hA.at_ 6 (by decide)
 have e7:=hA.at_ 7 (by decide)
 have e8:=hA.at_ 8 (by decide)
 have e9:=hA.at_ 9 (by decide)
 have e10:=hA.at_ 10 (by decide)
 have e11:=hA.at_ 11 (by decide)
 have e12:=hA.at_ 12 (by decide)
 have e13:=hA.at_ 13 (by decide)
 have e14:=hA.at_ 14 (by decide)
 have e15:=hA.at_ 15 (by decide)
 have e16:=hA.at_ 16 (by decide)
 have e17:=hA.at_ 17 (by decide)
 have e18:=hA.at_ 18 (by decide)
 have e19:=hA.at_ 19 (by decide)
 have e20:=hA.at_ 20 (by decide)
 have e21:=hA.at_ 21 (by decide)
 have e22:=hA.at_ 22 (by decide)
 have e23:=hA.at_ 23 (by decide)
 have e24:=hA.at_ 24 (by decide)
 have e25:=hA.at_ 25 (by decide)
 have e26:=hA.at_ 26 (by decide)
 have e27:=hA.at_ 27 (by decide)
 simp only[errVars,List.getD_cons_zero,List.getD_cons_succ] at e0 e1 e2 e3 e4 e5 e6 e7 e8 e9 e10 e11 e12 e13 e14 e15 e16 e17 e18 e19 e20 e21 e22 e23 e24 e25 e26 e27
 have HA:=hid hA
 obtain ⟨w1,hw1⟩:∃ w1,w1=w.alloc (.cells #[.iface 282 (.pointer (some (A 0))),.iface 282 (.pointer (some (A 1))),.iface 282 (.pointer (some (A 2))),.iface 282 (.pointer (some (A 3))),.iface 282 (.pointer (some (A 4))),.iface 282 (.pointer (some (A 5))),.iface 282 (.pointer (some (A 6))),.iface 282 (.pointer (some (A 7))),.iface 282 (.pointer (some (A 8))),.iface 282 (.pointer (some (A 9))),.iface 282 (.pointer (some (A 10))),.iface 282 (.pointer (some (A 11))),.iface 282 (.pointer (some (A 12))),.iface 282 (.pointer (some (A 13))),.iface 282 (.pointer (some (A 14))),.iface 282 (.pointer (some (A 15))),.iface 282 (.pointer (some (A 16))),.iface 282 (.pointer (some (A 17))),.iface 282 (.pointer (some (A 18))),.iface 282 (.pointer (some (A 19))),.iface 282 (.pointer (some (A 20))),.iface 282 (.pointer (some (A 21))),.iface 282 (.pointer (some (A 22))),.iface 282 (.pointer (some (A 23))),.iface 282 (.pointer (some (A 24))),.iface 282 (.pointer (some (A 25))),.iface 282 (.pointer (some (A 26))),.iface 282 (.pointer (some (A 27)))] 28):=⟨_,rfl⟩
 have G1:Hid (w.grownBy w1 none):=hid (by rw[hw1];exact World.grownBy_alloc _ _ _)
 have B1:Hid (∀ k,k<28→w1.cell? ⟨w.heap.size,k,none⟩=some (.iface 282 (.pointer (some (A k))))):=hid (fun k hk=>by
  rw[hw1]
  refine cell_blk (alloc_at w _) k ?_
  match k,hk with
  |0,_=>rfl
  |1,_=>rfl
  |2,_=>rfl
  |3,_=>rfl
  |4,_=>rfl
  |5,_=>rfl
  |6,_=>rfl
  |7,_=>rfl
  |8,_=>rfl
  |9,_=>rfl
  |10,_=>rfl
  |11,_=>rfl
  |12,_=>rfl
  |13,_=>rfl
  |14,_=>rfl
  |15,_=>rfl
  |16,_=>rfl
  |17,_=>rfl
  |18,_=>rfl
  |19,_=>rfl
  |20,_=>rfl
  |21,_=>rfl
  |22,_=>rfl
  |23,_=>rfl
  |24,_=>rfl
  |25,_=>rfl
  |26,_=>rfl
  |27,_=>rfl
  |n+28,h=>omega)
 have HS:Hid (∀ w',w.grownBy w' none→Calls Tryz.prog 46 #[.iface 282 (.pointer (some (A i))),.iface 282 (.pointer (some (A i)))] w' fun e w''=>e=.returned (.bool true)∧w''=w'):=hid (fun w' _=>is_same (A i) w')
 have HO:Hid (∀ k w',k<28→k≠i→w.grownBy w' none→Calls Tryz.prog 46 #[.iface 282 (.pointer (some (A i))),.iface 282 (.pointer (some (A k)))] w' fun e w''=>e=.returned (.bool false)∧w''=w'):=hid (fun k w' hk hne hg=>by
  obtain ⟨c1,t1,h1⟩:=(hA.grown hg).there i hi
  obtain ⟨c2,t2,h2⟩:=(hA.grown hg).there k hk
  exact is_other (A i) (A k) c1 c2 t1 t2 w' (hA.apart i k hi hk (fun e=>hne e.symm)) h1 h2)
 have HW1:=hid hw1
 clear hA hw1
 go_enter Tryz.func13,Tryz.ntmps13
 go_wp2
 rw[←HW1.out]
 clear e0 e1 e2 e3 e4 e5 e6 e7 e8 e9 e10 e11 e12 e13 e14 e15 e16 e17 e18 e19 e20 e21 e22 e23 e24 e25 e26 e27
 go_loopw [39] (fun j wr=>∃ k:Nat,k≤i∧j=.int .i64 k∧wr=w1) (fun j _=>28-(intOf j).toNat)
 case atStart=>exact ⟨0,Nat.zero_le _,rfl,rfl⟩
 case round =>
  obtain ⟨k,hk,rfl,rfl⟩:=hrel
  have c1:=B1.out k (by omega)
  by_cases hki:k=i
  ·subst hki
   go_wp2_with (go_at_call 46;refine (HS.out _ G1.out).mono ?_;rintro e w2 ⟨rfl,rfl⟩)
   go_ret
   exact ⟨by go_num,G1.out⟩
  ·go_wp2_with (go_at_call 46;refine (HO.out k _ (by omega) hki G1.out).mono ?_;rintro e w2 ⟨rfl,rfl⟩)
   go_roundw
   case rel=>exact ⟨k+1,by omega,by go_num,by trivial⟩
   case measure=>simp[intOf];omega
abbrev errV (A:Nat→Addr) (k:Nat):Value:=.iface 282 (.pointer (some (A (k-1))))
theorem errs_at {w:World} {A:Nat→Addr} (h:AllErrs w A) (k:Nat) (hk:k-1<28):w.cell? ⟨errVars.getD (k-1) 0,0,none⟩=some (errV A k):=h.at_ _ hk
theorem err_range {w:World} {A:Nat→Addr} (h:AllErrs w A):w.cell? ⟨2,0,none⟩=some (errV A 1):=errs_at h 1 (by decide)
theorem err_short {w:World} {A:Nat→Addr} (h:AllErrs w A):w.cell? ⟨3,0,none⟩=some (errV A 2):=errs_at h 2 (by decide)
theorem err_form {w:World} {A:Nat→Addr} (h:AllErrs w A):w.cell? ⟨5,0,none⟩=some (errV A 4):=errs_at h 4 (by decide)
structure RFErrs (w:World) (A:Nat→Addr):Prop where
 range:w.cell? ⟨2,0,none⟩=some (errV A 1)
 form:w.cell? ⟨5,0,none⟩=some (errV A 4)
theorem RFErrs.grown {w w':World} {A:Nat→Addr} (h:RFErrs w A) (hg:w.grownBy w' none):RFErrs w' A :=
 ⟨(World.cell?_of_block (hg.block _ (World.block_lt_of_cell? w _ h.range) (by simp))).trans h.range,(World.cell?_of_block (hg.block _ (World.block_lt_of_cell? w _ h.form) (by simp))).trans h.form⟩
theorem AllErrs.rf {w:World} {A:Nat→Addr} (h:AllErrs w A):RFErrs w A:=⟨err_range h,err_form h⟩
def errOf (A:Nat→Addr) (k:Nat):Value:=if k=0 then .nilIface else errV A k
theorem num_of (A:Nat→Addr) (k:Nat) (hk:k≤28) (w:World) (hA:AllErrs w A) :
  Calls Tryz.prog 13 #[errOf A k] w fun e w'=>e=.returned (.int .i64 k)∧w.grownBy w' none:=by
 unfold errOf
 split
 ·rename_i h
  subst h
  exact (num_nil w).mono (by rintro e w' ⟨rfl,rfl⟩;exact ⟨rfl,grown_refl _ _⟩)
 ·have h:=num_err A (k-1) (by omega) w hA
  rw[show k-1+1=k by omega] at h
  exact h
theorem rdFail0e {w:World} {b:Nat} {lv ov:Value} (hb:w.heap[b]?=some (.cells #[lv,ov,.nilIface] 126 (0,0))) (A:Nat→Addr) (k:Nat):Calls Tryz.prog 82 #[.pointer (some ⟨b,0,none⟩),errV A k] w fun e w'=>e=.returned (.tuple #[])∧w'=w.setCell ⟨b,2,none⟩ (errV A k):=by
 have c0:=cell_blk hb 0 rfl
 have c1:=cell_blk hb 1 rfl
 have c2:=cell_blk hb 2 rfl
 have f2:=free_blk hb 2
 have hlt:=blk_lt hb
 go_enter Tryz.func82,Tryz.ntmps82
 go_wp2
 go_returns
 exact ⟨rfl,rfl⟩
theorem rdFail1 {w:World} {b:Nat} {lv ov:Value} {A:Nat→Addr} {k:Nat} (hb:w.heap[b]?=some (.cells #[lv,ov,errV A k] 126 (0,0))) (x:Value):Calls Tryz.prog 82 #[.pointer (some ⟨b,0,none⟩),x] w fun e w'=>e=.returned (.tuple #[])∧w'=w:=by
 have c0:=cell_blk hb 0 rfl
 have c1:=cell_blk hb 1 rfl
 have c2:=cell_blk hb 2 rfl
 have f2:=free_blk hb 2
 have hlt:=blk_lt hb
 go_enter Tryz.func82,Tryz.ntmps82
 go_wp2
 go_returns
 exact ⟨rfl,rfl⟩
theorem rdErr0 {w:World} {b:Nat} {lv ov:Value} (hb:w.heap[b]?=some (.cells #[lv,ov,.nilIface] 126 (0,0))):Calls Tryz.prog 39 #[.pointer (some ⟨b,0,none⟩)] w fun e w'=>e=.returned .nilIface∧w'=w:=by
 have c0:=cell_blk hb 0 rfl
 have c1:=cell_blk hb 1 rfl
 have c2:=cell_blk hb 2 rfl
 have f2:=free_blk hb 2
 have hlt:=blk_lt hb
 go_enter Tryz.func39,Tryz.ntmps39
 go_wp2
 go_ret
 exact ⟨rfl,rfl⟩
theorem rdErr1 {w:World} {b:Nat} {lv ov:Value} {A:Nat→Addr} {k:Nat} (hb:w.heap[b]?=some (.cells #[lv,ov,errV A k] 126 (0,0))):Calls Tryz.prog 39 #[.pointer (some ⟨b,0,none⟩)] w fun e w'=>e=.returned (errV A k)∧w'=w:=by
 have c0:=cell_blk hb 0 rfl
 have c1:=cell_blk hb 1 rfl
 have c2:=cell_blk hb 2 rfl
 have f2:=free_blk hb 2
 have hlt:=blk_lt hb
 go_enter Tryz.func39,Tryz.ntmps39
 go_wp2
 go_ret
 exact ⟨rfl,rfl⟩
theorem rdEnd1 {w:World} {b:Nat} {lv ov:Value} {A:Nat→Addr} {k:Nat} (hb:w.heap[b]?=some (.cells #[lv,ov,errV A k] 126 (0,0))):Calls Tryz.prog 41 #[.pointer (some ⟨b,0,none⟩)] w fun e w'=>e=.returned (errV A k)∧w'=w:=by
 have c0:=cell_blk hb 0 rfl
 have c1:=cell_blk hb 1 rfl
 have c2:=cell_blk hb 2 rfl
 have f2:=free_blk hb 2
 have hlt:=blk_lt hb
 go_enter Tryz.func41,Tryz.ntmps41
 go_wp2
 go_ret
 exact ⟨rfl,rfl⟩
theorem rdMore0 {w:World} {b:Nat} {ov:Value} {a:Option Addr} {n c:Nat} (hn:0<n) (hb:w.heap[b]?=some (.cells #[.slice a n c,ov,.nilIface] 126 (0,0))):Calls Tryz.prog 120 #[.pointer (some ⟨b,0,none⟩)] w fun e w'=>e=.returned (.bool true)∧w'=w:=by
 have c0:=cell_blk hb 0 rfl
 have c1:=cell_blk hb 1 rfl
 have c2:=cell_blk hb 2 rfl
 have f2:=free_blk hb 2
 have hlt:=blk_lt hb
 have hn2:(0:Int)<(n:Int):=by omega
 go_enter Tryz.func120,Tryz.ntmps120
 go_wp2
 go_ret
 exact ⟨rfl,rfl⟩
theorem rdMore1 {w:World} {b:Nat} {lv ov:Value} {A:Nat→Addr} {k:Nat} (hb:w.heap[b]?=some (.cells #[lv,ov,errV A k] 126 (0,0))):Calls Tryz.prog 120 #[.pointer (some ⟨b,0,none⟩)] w fun e w'=>e=.returned (.bool false)∧w'=w:=by
 have c0:=cell_blk hb 0 rfl
 have c1:=cell_blk hb 1 rfl
 have c2:=cell_blk hb 2 rfl
 have f2:=free_blk hb 2
 have hlt:=blk_lt hb
 go_enter Tryz.func120,Tryz.ntmps120
 go_wp2
 go_ret
 exact ⟨rfl,rfl⟩
end Go.Proofs.YtijkaknggdaajaaGreatDoor
