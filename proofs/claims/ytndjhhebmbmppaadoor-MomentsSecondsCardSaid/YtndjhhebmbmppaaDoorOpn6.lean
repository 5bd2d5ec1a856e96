/- A date that comes in: six ints, with their bounds. -/
import Derived.Test.YtndjhhebmbmppaaDoorOpn4
import Derived.Test.YtndjhhebmbmppaaDoorMo0
namespace Go.Proofs.YtndjhhebmbmppaaDoor
open Go.ChangeShapes Go.WideShapes Go.ChangeAt Go.RowKit

set_option maxRecDepth 100000 in
theorem date_in {w : World} {r : Reach} {base : Nat} {v : Value} (h : Value.okWide Tryd.prog w r base 24 v) : ∃ d : Cal.DI, v = dV d ∧ (inI d.Y ∧ inI d.M ∧ inI d.D ∧ inI d.h ∧ inI d.mi ∧ inI d.s) := by
  simp only [Value.okWide, Tryd.underlying24] at h
  obtain ⟨cs, rfl, hsz, ts, hts, _, hall⟩ := h
  have hc : Tryd.prog.cellsOf 24 = 6 := by kernel_rfl
  have htt : Tryd.prog.cellTypes Tryd.prog.depth 24 = some [3, 3, 3, 3, 3, 3] := by kernel_rfl
  rw [hts] at htt
  obtain rfl := Option.some.inj htt
  rw [hc] at hsz
  have key : ∀ i, i < 6 → ∃ n, cs[i]? = some (.int .i64 n) ∧ inI n := fun i hi => by
    obtain ⟨u, hu, hok⟩ := hall i cs[i] (Array.getElem?_eq_getElem (by omega))
    have hu3 : u = 3 := by
      match i, hi, hu with
      | 0, _, hu => exact (Option.some.inj hu).symm
      | 1, _, hu => exact (Option.some.inj hu).symm
      | 2, _, hu => exact (Option.some.inj hu).symm
      | 3, _, hu => exact (Option.some.inj hu).symm
      | 4, _, hu => exact (Option.some.inj hu).symm
      | 5, _, hu => exact (Option.some.inj hu).symm
    subst hu3
    obtain ⟨n, hn, h1, h2⟩ := int_in (v := cs[i]) (by simp only [Value.okWide, Tryd.underlying3]; exact hok)
    exact ⟨n, by rw [Array.getElem?_eq_getElem (by omega), hn], h1, h2⟩
  obtain ⟨Y, e0, b0⟩ := key 0 (by omega)
  obtain ⟨M, e1, b1⟩ := key 1 (by omega)
  obtain ⟨D, e2, b2⟩ := key 2 (by omega)
  obtain ⟨h, e3, b3⟩ := key 3 (by omega)
  obtain ⟨mi, e4, b4⟩ := key 4 (by omega)
  obtain ⟨s, e5, b5⟩ := key 5 (by omega)
  refine ⟨⟨Y, M, D, h, mi, s⟩, ?_, b0, b1, b2, b3, b4, b5⟩
  show Value.agg cs = .agg #[.int .i64 Y, .int .i64 M, .int .i64 D, .int .i64 h, .int .i64 mi, .int .i64 s]
  congr 1
  apply Array.ext_getElem?
  intro i
  match i with
  | 0 => exact e0
  | 1 => exact e1
  | 2 => exact e2
  | 3 => exact e3
  | 4 => exact e4
  | 5 => exact e5
  | n + 6 => rw [Array.getElem?_eq_none (by omega), Array.getElem?_eq_none (by simp)]
end Go.Proofs.YtndjhhebmbmppaaDoor
