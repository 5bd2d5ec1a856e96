import Derived.Test.YtndkifkhdollgaaGreatDoorZr00
import Derived.Test.YtndkifkhdollgaaGreatDoorChecked
import Derived.Lib.Strings
import Derived.Lib.Slices
import Derived.Lib.Small
import Derived.Lib.Walk
import Derived.Lib.BitFns
import Derived.Lib.ItoaNum
set_option linter.unusedVariables false
set_option linter.unusedSimpArgs false
namespace Go.Proofs.YtndkifkhdollgaaGreatDoor
open Go.RowKit
theorem ntz_int (x:Int) (w:World) (h0:0≤x) (h1:x≤255) :
  Calls Tryz.prog 199 #[.int .u8 x] w fun e w'=>e=.returned (.int .i64 (Lib.trailingZeros8 x.toNat))∧w'=w:=by
 rw[←Lib.ntz8_int x h0 h1]
 go_enter Tryz.func199,Tryz.ntmps199
 go_wp2
 go_ret
 exact ⟨rfl,rfl⟩
theorem ntz_any (x:Nat) (hx:x<256) (w:World) :
  Calls Tryz.prog 199 #[.int .u8 x] w fun e w'=>e=.returned (.int .i64 (Lib.trailingZeros8 x))∧w'=w:=by
 have:=ntz_int x w (by omega) (by omega)
 rwa [Int.toNat_natCast] at this
theorem ntz_rev_fin:∀ x:Fin 256,∀ u:Fin 8,(Lib.trailingZeros8 x.val=u.val)↔(2 ^ (7-u.val)≤Pt.rev8 x.val∧Pt.rev8 x.val<2 ^ (8-u.val)):=by decide +kernel
theorem ntz_rev {x u:Nat} (hx:x<256) (hu:u<8):Lib.trailingZeros8 x=u↔(2 ^ (7-u)≤Pt.rev8 x∧Pt.rev8 x<2 ^ (8-u)):=ntz_rev_fin ⟨x,hx⟩ ⟨u,hu⟩
namespace Pt
def named (u:Nat) (its:List Nat):Bool:=if its.length=0 then decide (u=0) else if 8≤u∨2<its.length then false else decide (Lib.trailingZeros8 (its.getD (its.length-1) 0)=u)
def twoOf (its:List Nat):Nat:=rev8 (its.getD 0 0)+256*rev8 (its.getD 1 0)
theorem rev8_0:rev8 0=0:=by decide
theorem mask_named (u:Nat) (its:List Nat) (h8:∀ x∈its,x<256):mask (u :: its)=if named u its=true then (if 32767<twoOf its then .error 1 else .ok (twoOf its)) else .error 4:=by
 match its,h8 with
 |[],_ =>
  rw[mask]
  by_cases h:u=0
  ·subst h;simp[named,twoOf,rev8_0]
  ·simp[named,h]
 |[x],h8 =>
  have hx:x<256:=h8 x (by simp)
  have hr:=rev8_lt x
  rw[mask]
  by_cases hu:u<8
  ·have e:=ntz_rev hx hu
   by_cases h:Lib.trailingZeros8 x=u
   ·have h2:=e.1 h
    rw[if_pos ⟨by omega,h2⟩]
    simp[named,twoOf,rev8_0,h,hu]
    omega
   ·have h2:=fun h3=>h (e.2 h3)
    rw[if_neg (fun h3=>h2 h3.2)]
    simp[named,h]
  ·rw[if_neg (by omega)]
   simp[named,show 8≤u by omega]
 |[x,y],h8 =>
  have hx:x<256:=h8 x (by simp)
  have hy:y<256:=h8 y (by simp)
  have hr:=rev8_lt x
  rw[mask]
  by_cases hu:u<8
  ·have e:=ntz_rev hy hu
   have p1:2 ^ (15-u)=256*2 ^ (7-u):=by rw[show 15-u=8+(7-u) by omega,Nat.pow_add]
   have p2:2 ^ (16-u)=256*2 ^ (8-u):=by rw[show 16-u=8+(8-u) by omega,Nat.pow_add]
   rw[p1,p2]
   by_cases h:Lib.trailingZeros8 y=u
   ·have h2:=e.1 h
    rw[if_pos ⟨by omega,by omega,by omega⟩]
    simp[named,twoOf,h,hu]
    by_cases hq:rev8 x+256*rev8 y<32768
    ·rw[if_pos hq,if_neg (by omega)]
    ·rw[if_neg hq,if_pos (by omega)]
   ·have h2:=fun h3=>h (e.2 h3)
    rw[if_neg (fun h3=>h2 ⟨by omega,by omega⟩)]
    simp[named,h]
  ·rw[if_neg (by omega)]
   simp[named,show 8≤u by omega]
 |_ :: _ :: _ :: _,_ =>
  rw[mask]
  ·simp[named]
  all_goals simp
end Pt
end Go.Proofs.YtndkifkhdollgaaGreatDoor
