import Derived.Test.YtagdcjpjbjboeaaGreatDoorZb00
import Derived.Test.YtagdcjpjbjboeaaGreatDoorZb01
import Derived.Test.YtagdcjpjbjboeaaGreatDoorZb03
import Derived.Test.YtagdcjpjbjboeaaGreatDoorZb12
import Derived.Test.YtagdcjpjbjboeaaGreatDoorZb13
import Derived.Test.YtagdcjpjbjboeaaGreatDoorZb14
import Derived.Test.YtagdcjpjbjboeaaGreatDoorZb17
import Derived.Test.YtagdcjpjbjboeaaGreatDoorZb25
import Derived.Test.YtagdcjpjbjboeaaGreatDoorZb32
import Derived.Lib.LaidTab
import Derived.Laws.RangeString
import Derived.Laws.RangeAny
import Derived.Lib.RuneCount
import Derived.BigQuiet
import Derived.Test.YtagdcjpjbjboeaaGreatDoorChecked
import Derived.WalkKit
import Derived.Lib.Hide
import Derived.Deep.QuietTactic
namespace Go.Proofs.YtagdcjpjbjboeaaGreatDoor
open Go.ChangeShapes Go.WideShapes Go.ChangeAt Go.RowKit
theorem mo_all (A : Nat → Addr) (W : World) (hE : AllErrs W A) (hL : Lens W) : MoAll A W where
  of := mOf_any A W hE hL
  put := mPut_any A W hE hL
  sec := mSec_any A W hE hL
  get := mGet_any A W hE hL
  leap := fun y W' _ _ => (mLeap_any y W').mono (fun e w' h => ⟨by rw [h.2]; exact grown_refl _ _, h.1⟩)
  days := fun y m W' _ _ hg => (mDays_any y m W' (hL.grown hg)).mono (fun e w' h => ⟨h.2, h.1⟩)
theorem laid_mem6 {P : Program} {W : World} {n : String} {d : DataW Unit} : ∀ {L : List (String × DataW Unit)} {ps : List MemPlace}, DataW.LaidVars P W L ps → (n, d) ∈ L →
    ∃ g t cs fuel p, P.globalNamed n = some g ∧ (P.globals[g]?).map (·.type) = some t ∧ W.var? P n = some cs ∧ DataW.trod (fun _ => ()) P W 0 (fun _ => true) false fuel t cs.toList = some (d, p)
  | [], _, _, hm => by cases hm
  | (n', d') :: r, ps, h, hm => by
    obtain ⟨g, t, cs, fuel, p, q, h1, h2, h3, h4, h5, _⟩ := h
    rcases List.mem_cons.1 hm with e | hm
    · cases e
      exact ⟨g, t, cs, fuel, p, h1, h2, h3, h4⟩
    · exact laid_mem6 h5 hm
theorem gLen : Tryz.prog.globalNamed "bulla/moments.lengths" = some 32 := by kernel_rfl
theorem tLen : (Tryz.prog.globals[32]?).map (·.type) = some 290 := by kernel_rfl
theorem c12 : Tryz.prog.cellsOf 290 = 12 := by kernel_rfl
theorem mcInt : Tryz.prog.cellsOf 3 = 1 := by kernel_rfl
theorem dLen : (Rows.laid_bulla_moments_lengths : DataW Unit) = Lib.tabData .i64 monthsL := by kernel_rfl
end Go.Proofs.YtagdcjpjbjboeaaGreatDoor
namespace Go.Proofs.YtagdcjpjbjboeaaGreatDoor
open Go.RowKit
def inT (t : Int) : Prop := -9223372036854775808 ≤ t ∧ t ≤ 9223372036854775807
/-- A mask. -/
def isMk (m : Int) : Prop := 0 ≤ m ∧ m < 32768
instance (m : Int) : Decidable (isMk m) := by unfold isMk; infer_instance
def TxPlain (w : World) : Prop := ∀ (s : ByteArray) (W : World), s.size ≤ 1000 → w.grownBy W none → Calls Tryz.prog 208 #[.string s] W fun e w' => W.grownBy w' none ∧ e = .returned (.bool (Pt.plain (strL s)))
/-- texts.Put answers as the document says, from w on. -/
def TxPut (A : Nat → Addr) (w : World) : Prop := ∀ (s : ByteArray) (most : Int) (W : World), s.size ≤ 1000 → inT most → w.grownBy W none → Calls Tryz.prog 147 #[.string s, .int .i64 most] W fun e w' => W.grownBy w' none ∧
  if Pt.asked (strL s) most = 0 then ∃ a c, e = .returned (.tuple #[.slice a s.size c, .nilIface]) ∧ Bytes w' (.slice a s.size c) (strL s) else ∃ a c, e = .returned (.tuple #[.slice a 0 c, errV A (Pt.asked (strL s) most)])
def TxGet (A : Nat → Addr) (w : World) : Prop := ∀ (v : Value) (s : ByteArray) (most : Int) (W : World), s.size ≤ 1000 → inT most → w.grownBy W none → Bytes W v (strL s) → Calls Tryz.prog 126 #[v, .int .i64 most] W fun e w' => W.grownBy w' none ∧
  e = .returned (.tuple (if Pt.asked (strL s) most = 0 then #[.string s, .nilIface] else #[.string ⟨#[]⟩, errV A (Pt.asked (strL s) most)]))
def TxFlags (A : Nat → Addr) (w : World) : Prop := ∀ (m : Int) (W : World), inT m → w.grownBy W none → Calls Tryz.prog 151 #[.int .i64 m] W fun e w' => W.grownBy w' none ∧
  if isMk m then ∃ a c, e = .returned (.tuple #[.slice a (Pt.flags m.toNat).length c, .nilIface]) ∧ Bytes w' (.slice a (Pt.flags m.toNat).length c) (Pt.flags m.toNat) else ∃ a c, e = .returned (.tuple #[.slice a 0 c, errV A 1])
def mkGot (A : Nat → Addr) : Except Nat Nat → Value
  | .ok n => .tuple #[.int .i64 (n : Int), .nilIface]
  | .error k => .tuple #[.int .i64 0, errV A k]
def TxMask (A : Nat → Addr) (w : World) : Prop := ∀ (v : Value) (l : List Nat) (W : World), w.grownBy W none → Bytes W v l → l.length ≤ 1000 → Calls Tryz.prog 132 #[v] W fun e w' => W.grownBy w' none ∧ e = .returned (mkGot A (Pt.mask l))
end Go.Proofs.YtagdcjpjbjboeaaGreatDoor
namespace Go.Proofs.YtagdcjpjbjboeaaGreatDoor
open Go.RowKit
set_option linter.unusedVariables false
/-- bytes.Compare as a value. -/
abbrev cmpV : Value := .func (.func 197) #[] #[]
end Go.Proofs.YtagdcjpjbjboeaaGreatDoor
