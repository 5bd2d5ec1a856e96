/- From a row's condition to the one error that package texts' Flags hands back. -/
import Derived.Test.YtbneggdfbkebcaaDoorNm3
import Derived.Test.YtbneggdfbkebcaaDoorEv
namespace Go.Proofs.YtbneggdfbkebcaaDoor
open Go.ChangeShapes Go.WideShapes Go.ChangeAt Go.RowKit

abbrev laidsR : List (String × DataW Unit) := [("bulla/api.ErrRange", Rows.laid_bulla_api_ErrRange)]
theorem gRng7 : Tryd.prog.globalNamed "bulla/api.ErrRange" = some 0 := by kernel_rfl
theorem tRng7 : (Tryd.prog.globals[0]?).map (·.type) = some 26 := by kernel_rfl
/-- The variable that holds the error of a number out of its range. -/
structure RngErr (w : World) (A : Nat → Addr) : Prop where
  range : w.cell? ⟨0, 0, none⟩ = some (errV A 1)
theorem RngErr.grown {w w' : World} {A : Nat → Addr} (h : RngErr w A) (hg : w.grownBy w' none) : RngErr w' A :=
  ⟨(World.cell?_of_block (hg.block _ (World.block_lt_of_cell? w _ h.range) (by simp))).trans h.range⟩
theorem AllErrs.rng {w : World} {A : Nat → Addr} (h : AllErrs w A) : RngErr w A := ⟨err_range h⟩
theorem rng_of {W : World} (h : laidMet Tryd.prog laidsR W) : ∃ A, RngErr W A := by
  obtain ⟨ps, hV, hnd, hrows⟩ := h
  obtain ⟨A, h1, _⟩ := sents (P := Tryd.prog) (W := W) Tryd.underlying26 rowEs Tryd.underlying106 Tryd.underlying131 rfl rfl Tryd.underlying9 cEs cStr laidsR ps hV hnd hrows
  have e1 := (h1 0 ("bulla/api.ErrRange", Rows.laid_bulla_api_ErrRange) rfl ⟨⟨_, rfl⟩, _, gRng7, tRng7⟩).1
  exact ⟨A, ⟨World.var?_cell gRng7 e1 0⟩⟩
end Go.Proofs.YtbneggdfbkebcaaDoor
