import Derived.Test.YtpjhkmdlegjdaaaGreatDoorZw00
import Derived.Test.YtpjhkmdlegjdaaaGreatDoorZw04
import Derived.Test.YtpjhkmdlegjdaaaGreatDoorZw12
import Derived.Test.YtpjhkmdlegjdaaaGreatDoorZw13
import Derived.Test.YtpjhkmdlegjdaaaGreatDoorZw14
import Derived.Test.YtpjhkmdlegjdaaaGreatDoorZw16
import Derived.Test.YtpjhkmdlegjdaaaGreatDoorZw20
import Derived.Test.YtpjhkmdlegjdaaaGreatDoorZw21
import Derived.Deep.QuietTactic
import Derived.BigQuiet
import Derived.Test.YtpjhkmdlegjdaaaGreatDoorChecked
import Derived.WalkKit
import Derived.Lib.Hide
set_option linter.unusedVariables false
set_option linter.unusedSimpArgs false
namespace Go.Proofs.YtpjhkmdlegjdaaaGreatDoor
open Go.RowKit
theorem truth_any (b : Bool) (w : World) :
    Calls Tryz.prog 80 #[.bool b] w fun e w' => e = .returned (.slice (some ⟨w.heap.size, 0, none⟩) 1 1) ∧ w.grownBy w' none ∧ Bytes w' (.slice (some ⟨w.heap.size, 0, none⟩) 1 1) [if b then 255 else 0] := by
  have H : ∀ x : Nat, x < 256 → w.grownBy (w.alloc (.cells #[.int .u8 (x : Int)] 5)) none ∧ Bytes (w.alloc (.cells #[.int .u8 (x : Int)] 5)) (.slice (some ⟨w.heap.size, 0, none⟩) 1 1) [x] := fun x hx =>
    ⟨World.grownBy_alloc _ _ _, Bytes.lit (l := [x]) (alloc_at w _) (by simpa using hx)⟩
  have H0 := Lib.hid (H 0 (by decide))
  have H1 := Lib.hid (H 255 (by decide))
  clear H
  go_enter Tryz.func80, Tryz.ntmps80
  cases b
  · go_wp2
    go_ret
    exact ⟨rfl, H0.out⟩
  · go_wp2
    go_ret
    exact ⟨rfl, H1.out⟩
end Go.Proofs.YtpjhkmdlegjdaaaGreatDoor
namespace Go.Proofs.YtpjhkmdlegjdaaaGreatDoor
open Go.RowKit
def inT (t : Int) : Prop := -9223372036854775808 ≤ t ∧ t ≤ 9223372036854775807
/-- A mask. -/
def isMk (m : Int) : Prop := 0 ≤ m ∧ m < 32768
instance (m : Int) : Decidable (isMk m) := by unfold isMk; infer_instance
def TxPlain (w : World) : Prop := ∀ (s : ByteArray) (W : World), s.size ≤ 1000 → w.grownBy W none → Calls Tryz.prog 163 #[.string s] W fun e w' => W.grownBy w' none ∧ e = .returned (.bool (Pt.plain (strL s)))
/-- texts.Put answers as the document says, from w on. -/
def TxPut (A : Nat → Addr) (w : World) : Prop := ∀ (s : ByteArray) (most : Int) (W : World), s.size ≤ 1000 → inT most → w.grownBy W none → Calls Tryz.prog 85 #[.string s, .int .i64 most] W fun e w' => W.grownBy w' none ∧
  if Pt.asked (strL s) most = 0 then ∃ a c, e = .returned (.tuple #[.slice a s.size c, .nilIface]) ∧ Bytes w' (.slice a s.size c) (strL s) else ∃ a c, e = .returned (.tuple #[.slice a 0 c, errV A (Pt.asked (strL s) most)])
def TxFlags (A : Nat → Addr) (w : World) : Prop := ∀ (m : Int) (W : World), inT m → w.grownBy W none → Calls Tryz.prog 89 #[.int .i64 m] W fun e w' => W.grownBy w' none ∧
  if isMk m then ∃ a c, e = .returned (.tuple #[.slice a (Pt.flags m.toNat).length c, .nilIface]) ∧ Bytes w' (.slice a (Pt.flags m.toNat).length c) (Pt.flags m.toNat) else ∃ a c, e = .returned (.tuple #[.slice a 0 c, errV A 1])
end Go.Proofs.YtpjhkmdlegjdaaaGreatDoor
namespace Go.Proofs.YtpjhkmdlegjdaaaGreatDoor
open Go.RowKit
set_option linter.unusedVariables false
/-- bytes.Compare as a value. -/
abbrev cmpV : Value := .func (.func 147) #[] #[]
end Go.Proofs.YtpjhkmdlegjdaaaGreatDoor
