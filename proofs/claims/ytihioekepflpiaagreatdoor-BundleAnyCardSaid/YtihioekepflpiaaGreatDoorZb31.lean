import Derived.Test.YtihioekepflpiaaGreatDoorZb00
import Derived.Test.YtihioekepflpiaaGreatDoorZb01
import Derived.Test.YtihioekepflpiaaGreatDoorZb02
import Derived.Test.YtihioekepflpiaaGreatDoorZb03
import Derived.Test.YtihioekepflpiaaGreatDoorZb05
import Derived.Test.YtihioekepflpiaaGreatDoorZb15
import Derived.Test.YtihioekepflpiaaGreatDoorZb16
import Derived.Test.YtihioekepflpiaaGreatDoorZb17
import Derived.Test.YtihioekepflpiaaGreatDoorZb19
import Derived.Test.YtihioekepflpiaaGreatDoorZb20
import Derived.Test.YtihioekepflpiaaGreatDoorZb24
import Derived.Test.YtihioekepflpiaaGreatDoorZb29
import Derived.Test.YtihioekepflpiaaGreatDoorZb30
import Derived.Lib.LaidTab
import Derived.Test.YtihioekepflpiaaGreatDoorChecked
import Derived.WalkKit
import Derived.BigQuiet
import Derived.Lib.Hide
import Derived.Deep.QuietTactic
set_option linter.unusedVariables false
set_option linter.unusedSimpArgs false
namespace Go.Proofs.YtihioekepflpiaaGreatDoor
open Go.ChangeShapes Go.WideShapes Go.ChangeAt Go.RowKit
theorem laid_mem6 {P : Program} {W : World} {n : String} {d : DataW Unit} : ∀ {L : List (String × DataW Unit)} {ps : List MemPlace}, DataW.LaidVars P W L ps → (n, d) ∈ L →
    ∃ g t cs fuel p, P.globalNamed n = some g ∧ (P.globals[g]?).map (·.type) = some t ∧ W.var? P n = some cs ∧ DataW.trod (fun _ => ()) P W 0 (fun _ => true) false fuel t cs.toList = some (d, p)
  | [], _, _, hm => by cases hm
  | (n', d') :: r, ps, h, hm => by
    obtain ⟨g, t, cs, fuel, p, q, h1, h2, h3, h4, h5, _⟩ := h
    rcases List.mem_cons.1 hm with e | hm
    · cases e
      exact ⟨g, t, cs, fuel, p, h1, h2, h3, h4⟩
    · exact laid_mem6 h5 hm
theorem gLen : Tryz.prog.globalNamed "bulla/moments.lengths" = some 31 := by kernel_rfl
theorem tLen : (Tryz.prog.globals[31]?).map (·.type) = some 176 := by kernel_rfl
theorem c12 : Tryz.prog.cellsOf 176 = 12 := by kernel_rfl
theorem mcInt : Tryz.prog.cellsOf 3 = 1 := by kernel_rfl
theorem dLen : (Rows.laid_bulla_moments_lengths : DataW Unit) = Lib.tabData .i64 monthsL := by kernel_rfl
end Go.Proofs.YtihioekepflpiaaGreatDoor
namespace Go.Proofs.YtihioekepflpiaaGreatDoor
open Go.RowKit
def inT (t : Int) : Prop := -9223372036854775808 ≤ t ∧ t ≤ 9223372036854775807
/-- A mask. -/
def isMk (m : Int) : Prop := 0 ≤ m ∧ m < 32768
instance (m : Int) : Decidable (isMk m) := by unfold isMk; infer_instance
def TxPlain (w : World) : Prop := ∀ (s : ByteArray) (W : World), s.size ≤ 1000 → w.grownBy W none → Calls Tryz.prog 101 #[.string s] W fun e w' => W.grownBy w' none ∧ e = .returned (.bool (Pt.plain (strL s)))
/-- texts.Put answers as the document says, from w on. -/
def TxPut (A : Nat → Addr) (w : World) : Prop := ∀ (s : ByteArray) (most : Int) (W : World), s.size ≤ 1000 → inT most → w.grownBy W none → Calls Tryz.prog 59 #[.string s, .int .i64 most] W fun e w' => W.grownBy w' none ∧
  if Pt.asked (strL s) most = 0 then ∃ a c, e = .returned (.tuple #[.slice a s.size c, .nilIface]) ∧ Bytes w' (.slice a s.size c) (strL s) else ∃ a c, e = .returned (.tuple #[.slice a 0 c, errV A (Pt.asked (strL s) most)])
end Go.Proofs.YtihioekepflpiaaGreatDoor
namespace Go.Proofs.YtihioekepflpiaaGreatDoor
open Go.RowKit
/-- bytes.Compare as a value. -/
abbrev cmpV : Value := .func (.func 107) #[] #[]
end Go.Proofs.YtihioekepflpiaaGreatDoor
