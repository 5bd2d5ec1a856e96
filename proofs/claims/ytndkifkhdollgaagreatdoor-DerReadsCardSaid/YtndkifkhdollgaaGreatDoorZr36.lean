import Derived.Test.YtndkifkhdollgaaGreatDoorZr00
import Derived.Test.YtndkifkhdollgaaGreatDoorZr01
import Derived.Test.YtndkifkhdollgaaGreatDoorZr02
import Derived.Test.YtndkifkhdollgaaGreatDoorZr10
import Derived.Test.YtndkifkhdollgaaGreatDoorZr11
import Derived.Test.YtndkifkhdollgaaGreatDoorZr12
import Derived.Test.YtndkifkhdollgaaGreatDoorZr14
import Derived.Test.YtndkifkhdollgaaGreatDoorZr15
import Derived.Test.YtndkifkhdollgaaGreatDoorZr17
import Derived.Test.YtndkifkhdollgaaGreatDoorZr18
import Derived.Test.YtndkifkhdollgaaGreatDoorZr22
import Derived.Test.YtndkifkhdollgaaGreatDoorZr24
import Derived.Test.YtndkifkhdollgaaGreatDoorZr27
import Derived.Test.YtndkifkhdollgaaGreatDoorZr28
import Derived.Test.YtndkifkhdollgaaGreatDoorZr29
import Derived.Test.YtndkifkhdollgaaGreatDoorZr32
import Derived.Laws.RangeString
import Derived.Laws.RangeAny
import Derived.Lib.RuneCount
import Derived.BigQuiet
import Derived.Deep.QuietTactic
import Derived.Test.YtndkifkhdollgaaGreatDoorChecked
import Derived.WalkKit
import Derived.Lib.Hide
set_option linter.unusedVariables false
set_option linter.unusedSimpArgs false
set_option maxRecDepth 100000
namespace Go.Proofs.YtndkifkhdollgaaGreatDoor
open Lib (hid)
open Go.RowKit
def inT (t:Int):Prop:=-9223372036854775808≤t∧t≤9223372036854775807
def isMk (m:Int):Prop:=0≤m∧m<32768
instance (m:Int):Decidable (isMk m):=by unfold isMk;infer_instance
def TxPlain (w:World):Prop:=∀ (s:ByteArray) (W:World),s.size≤1000→w.grownBy W none→Calls Tryz.prog 189 #[.string s] W fun e w'=>W.grownBy w' none∧e=.returned (.bool (Pt.plain (strL s)))
def TxGet (A:Nat→Addr) (w:World):Prop:=∀ (v:Value) (s:ByteArray) (most:Int) (W:World),s.size≤1000→inT most→w.grownBy W none→Bytes W v (strL s)→Calls Tryz.prog 117 #[v,.int .i64 most] W fun e w'=>W.grownBy w' none ∧
 e=.returned (.tuple (if Pt.asked (strL s) most=0 then #[.string s,.nilIface] else #[.string ⟨#[]⟩,errV A (Pt.asked (strL s) most)]))
def mkGot (A:Nat→Addr):Except Nat Nat→Value
 |.ok n=>.tuple #[.int .i64 (n:Int),.nilIface]
 |.error k=>.tuple #[.int .i64 0,errV A k]
def TxMask (A:Nat→Addr) (w:World):Prop:=∀ (v:Value) (l:List Nat) (W:World),w.grownBy W none→Bytes W v l→l.length≤1000→Calls Tryz.prog 123 #[v] W fun e w'=>W.grownBy w' none∧e=.returned (mkGot A (Pt.mask l))
abbrev cmpV:Value:=.func (.func 184) #[] #[]
theorem mkFn (fn:Fn) (first cap:Array Value) (w:World):(Instr.makeFunc fn first cap).run Tryz.prog w=.ok (.func fn first cap) w:=rfl
theorem step_putR {s:De.St} {v:De.Val} {t:Nat} {r:Except Nat (List Nat)} (h1:v.kind≠1) (h2:v.kind≠2) (h11:v.kind≠11) (hb:De.body v=match r with
  |.ok l=>.ok (t,l)
  |.error k=>.error k):De.step s v=if s.e=0 then putR s t r else s:=by
 unfold De.step
 by_cases he:s.e=0
 ·rw[if_pos he,if_neg (fun h=>h he),if_neg h1,if_neg h2,if_neg h11]
  unfold De.plainV
  rw[hb]
  cases r <;> rfl
 ·rw[if_neg he,if_pos he]
theorem enters_any {f:FuncId} {fn:Func} {c:Code} (hf:Tryz.prog.funcs[f]?=some fn) (hname:(fn.name == "runtime.NumGoroutine")=false) (hb:fn.body=some c):∀ args w,(callFunc f args).run Tryz.prog w=.ok (.enter f args) w:=enters_of hf hname hb
theorem sure_int (g:Nat) (w:World):Calls Tryz.prog 93 #[.func (.func g) #[] #[]] w fun e w'=>e=.returned (.func (.func 145) #[] #[.pointer (some ⟨w.heap.size,0,none⟩)])∧w'=w.alloc (.cells #[.func (.func g) #[] #[]] 141):=by
 have hmf:=mkFn
 go_enter Tryz.func93,Tryz.ntmps93
 go_wp2
 go_ret
 exact ⟨rfl,rfl⟩
theorem sureClo_int (A:Nat→Addr) (g bx:Nat) (x:Int) (l:List Nat) (w:World) (hx:w.cell? ⟨bx,0,none⟩=some (.func (.func g) #[] #[])) (hen:∀ args w,(callFunc g args).run Tryz.prog w=.ok (.enter g args) w)
  (hB:Calls Tryz.prog g #[.int .i64 x] w fun e w'=>∃ a c,e=.returned (.slice a l.length c)∧w.grownBy w' none∧Bytes w' (.slice a l.length c) l∧Whole0 (.slice a l.length c)) :
  Calls Tryz.prog 145 #[.int .i64 x,.pointer (some ⟨bx,0,none⟩)] w fun e w'=>BodyPost A w w' (.ok l) e:=by
 have HB:=hid hB
 obtain ⟨n,hn⟩:∃ n,n=l.length:=⟨_,rfl⟩
 clear hB
 go_enter Tryz.func145,Tryz.ntmps145
 go_wp2_with ((with_reducible refine HB.out.mono ?_);rintro e w2 ⟨a,c,rfl,hg2,hb2,h02⟩;have HG2:=hid hg2;have HB2:=hid hb2;have H02:=hid h02;clear hg2 hb2 h02)
 go_ret2
 exact ⟨HG2.out,_,_,rfl,HB2.out,H02.out⟩
end Go.Proofs.YtndkifkhdollgaaGreatDoor
