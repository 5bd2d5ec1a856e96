import Derived.Test.YtgdnndapmcjoeaaDoorKe11
import Derived.Test.YtgdnndapmcjoeaaDoorRows
import Derived.ProofKit
import Derived.LaidMore
import Derived.OpenShut
import Derived.Stop.Joined
import Derived.Lib.LaidTab
import Derived.Below
import Derived.Lay
namespace Go.Proofs.YtgdnndapmcjoeaaDoor
open Go.ChangeShapes Go.WideShapes Go.ChangeAt Go.RowKit
theorem own : ownKnob Tryd.prog.godebug = none := by kernel_rfl
theorem gStart : Tryd.prog.globalNamed "bulla/sha.start" = some 28 := by kernel_rfl
theorem gRounds : Tryd.prog.globalNamed "bulla/sha.rounds" = some 29 := by kernel_rfl
theorem tStart : (Tryd.prog.globals[28]?).map (·.type) = some 136 := by kernel_rfl
theorem tRounds : (Tryd.prog.globals[29]?).map (·.type) = some 147 := by kernel_rfl
theorem c8 : Tryd.prog.cellsOf 136 = 8 := by kernel_rfl
theorem c64 : Tryd.prog.cellsOf 147 = 64 := by kernel_rfl
theorem c1 : Tryd.prog.cellsOf 135 = 1 := by kernel_rfl
theorem dStart : (Rows.laid_bulla_sha_start : DataW Unit) = Lib.tabData .u32 (Sha.first.list.map fun (n : Nat) => (n : Int)) := rfl
theorem dRounds : (Rows.laid_bulla_sha_rounds : DataW Unit) = Lib.tabData .u32 (Sha.ks.map fun (n : Nat) => (n : Int)) := rfl
abbrev laids : List (String × DataW Unit) := [("bulla/sha.start", Rows.laid_bulla_sha_start), ("bulla/sha.rounds", Rows.laid_bulla_sha_rounds)]
theorem laid_of {W : World} (h : laidMet Tryd.prog laids W) : Laid W := by
  obtain ⟨ps, ⟨g0, t0, cs0, f0, p0, q0, hg0, ht0, hv0, hd0, ⟨g1, t1, cs1, f1, p1, q1, hg1, ht1, hv1, hd1, _, _⟩, _⟩, _, _⟩ := h
  obtain rfl := Option.some.inj (gStart.symm.trans hg0)
  obtain rfl := Option.some.inj (gRounds.symm.trans hg1)
  obtain rfl := Option.some.inj (tStart.symm.trans ht0)
  obtain rfl := Option.some.inj (tRounds.symm.trans ht1)
  rw [dStart] at hd0
  rw [dRounds] at hd1
  have e0 := Lib.cells_of_tab Tryd.underlying136 Tryd.underlying135 c1 c8 hd0
  have e1 := Lib.cells_of_tab Tryd.underlying147 Tryd.underlying135 c1 c64 hd1
  have hr : ∀ i, i < 64 → W.cell? ⟨29, i, none⟩ = some (.int .u32 (Sha.ks.getD i 0 : Nat)) := fun i hi => by
    have := World.var?_cell hg1 hv1 i
    rw [this, ← Array.getElem?_toList, e1]
    simp [Sha.ks_len, hi]
  refine ⟨?_, fun j v hv => ?_, hr⟩
  · have h0 := hr 0 (by decide)
    unfold World.cell? at h0
    rcases Nat.lt_or_ge 29 W.heap.size with h | h
    · exact h
    · rw [Array.getElem?_eq_none h] at h0; cases h0
  · have := World.var?_cell hg0 hv0 (0 + j)
    rw [this, ← Array.getElem?_toList, e0, Nat.zero_add]
    exact hv
end Go.Proofs.YtgdnndapmcjoeaaDoor
