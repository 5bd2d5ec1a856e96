/- An int that comes in, with its bounds. -/
import Derived.Test.YtepjjgplnmkjgaaDoorOpn
namespace Go.Proofs.YtepjjgplnmkjgaaDoor
open Go.ChangeShapes Go.WideShapes Go.ChangeAt Go.RowKit

set_option maxRecDepth 100000 in
theorem int_in {w : World} {r : Reach} {base : Nat} {v : Value} (h : Value.okWide Tryd.prog w r base 3 v) : ∃ n, v = .int .i64 n ∧ -9223372036854775808 ≤ n ∧ n ≤ 9223372036854775807 := by
  simp only [Value.okWide, Tryd.underlying3, Cell.okWide] at h
  cases v with
  | int k n =>
    simp only [Cell.ok, Tryd.underlying3] at h
    obtain ⟨rfl, h1, h2⟩ := h
    exact ⟨n, rfl, by simpa [IntKind.min, IntKind.signed, IntKind.bits] using h1, by simpa [IntKind.max, IntKind.signed, IntKind.bits] using h2⟩
  | _ => simp [Cell.ok, Tryd.underlying3] at h
end Go.Proofs.YtepjjgplnmkjgaaDoor
