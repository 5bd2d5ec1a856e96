/- From a law's input to what the walks ask: bytes, the two errors. -/
import Derived.Test.YtepjjgplnmkjgaaDoorRows
import Derived.Test.YtepjjgplnmkjgaaDoorMs5
import Derived.ProofKit
import Derived.OpenShut
import Derived.Lay
import Derived.Stop.LaidErr
import Derived.Below
import Derived.Carry
import Derived.LaidMore
import Derived.Lib.SmallJoins
namespace Go.Proofs.YtepjjgplnmkjgaaDoor
open Go.ChangeShapes Go.WideShapes Go.ChangeAt Go.RowKit

theorem own2 : ownKnob Tryd.prog.godebug = none := by kernel_rfl
theorem laidOut2 : laidOutB Tryd.prog = true := by kernel_rfl
theorem gErrText : Tryd.prog.globalNamed "bulla/api.ErrText" = some 8 := by kernel_rfl
theorem gErrLong : Tryd.prog.globalNamed "bulla/api.ErrLong" = some 3 := by kernel_rfl
theorem tErrText : (Tryd.prog.globals[8]?).map (·.type) = some 29 := by kernel_rfl
theorem tErrLong : (Tryd.prog.globals[3]?).map (·.type) = some 29 := by kernel_rfl
theorem cEs : Tryd.prog.cellsOf 112 = 1 := by kernel_rfl
theorem cStr : Tryd.prog.cellsOf 9 = 1 := by kernel_rfl
theorem cU8 : Tryd.prog.cellsOf 5 = 1 := by kernel_rfl
theorem starEs : "*" ++ "errors.errorString" = "*errors.errorString" := by decide
theorem rowEs (u : TypeId) (h : Tryd.prog.typeName? 3 u = some "*errors.errorString") : u = 87 :=
  typeName_ptr_named (nm := "errors.errorString") (by rw [starEs]; kernel_rfl) (by kernel_rfl) (by decide) u (by rw [starEs]; exact h)

theorem var_lt {W : World} {n : String} {g : Nat} {cs : Array Value} (hg : Tryd.prog.globalNamed n = some g) (h : W.var? Tryd.prog n = some cs) : g < W.heap.size := by
  unfold World.var? at h
  rw [hg] at h
  simp only [Option.bind_some] at h
  rcases Nat.lt_or_ge g W.heap.size with h' | h'
  · exact h'
  · simp [Array.getElem?_eq_none h'] at h

/-- What Frame's contract asks of a world in which the two errors are laid, at the head of a list. -/
theorem errs_of {W : World} {r : List (String × DataW Unit)} (h : laidMet Tryd.prog (("bulla/api.ErrLong", Rows.laid_bulla_api_ErrLong) :: ("bulla/api.ErrText", Rows.laid_bulla_api_ErrText) :: r) W) :
    ∃ aT aL, Errs W (.iface 87 (.pointer (some aT))) (.iface 87 (.pointer (some aL))) := by
  obtain ⟨aL, _, hvL, _⟩ := laid_sentinel h gErrLong tErrLong Tryd.underlying29 rowEs Tryd.underlying87 Tryd.underlying112 rfl rfl Tryd.underlying9 cEs cStr
  obtain ⟨aT, _, hvT, _⟩ := laid_sentinel h.tail gErrText tErrText Tryd.underlying29 rowEs Tryd.underlying87 Tryd.underlying112 rfl rfl Tryd.underlying9 cEs cStr
  exact ⟨aT, aL, by simpa using World.var?_cell gErrText hvT 0, by simpa using World.var?_cell gErrLong hvL 0, var_lt gErrText hvT, var_lt gErrLong hvL⟩

theorem cell_lt {W : World} {a : Addr} {v : Value} (h : W.cell? a = some v) : a.block < W.heap.size := by
  rcases Nat.lt_or_ge a.block W.heap.size with h1 | h1
  · exact h1
  · unfold World.cell? at h
    simp [Array.getElem?_eq_none h1] at h


end Go.Proofs.YtepjjgplnmkjgaaDoor
