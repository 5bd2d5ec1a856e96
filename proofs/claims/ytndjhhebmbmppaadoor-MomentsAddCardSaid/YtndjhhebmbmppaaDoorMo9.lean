/- Package moments, all of it: what stage 6's laws ask. From a row's condition to the table of months' lengths. -/
import Derived.Test.YtndjhhebmbmppaaDoorMkd
import Derived.Test.YtndjhhebmbmppaaDoorNm3
import Derived.Lib.LaidTab
namespace Go.Proofs.YtndjhhebmbmppaaDoor
open Go.ChangeShapes Go.WideShapes Go.ChangeAt Go.RowKit

theorem mo_all (A : Nat → Addr) (W : World) (hE : AllErrs W A) (hL : Lens W) : MoAll A W where
  of := mOf_any A W hE hL
  put := mPut_any A W hE hL
  sec := mSec_any A W hE hL
  get := mGet_any A W hE hL
  wd := mWd_any W
  add := mAdd_any A W hE
  leap := fun y W' _ _ => (mLeap_any y W').mono (fun e w' h => ⟨by rw [h.2]; exact grown_refl _ _, h.1⟩)
  days := fun y m W' _ _ hg => (mDays_any y m W' (hL.grown hg)).mono (fun e w' h => ⟨h.2, h.1⟩)

theorem laid_mem6 {P : Program} {W : World} {n : String} {d : DataW Unit} : ∀ {L : List (String × DataW Unit)} {ps : List MemPlace}, DataW.LaidVars P W L ps → (n, d) ∈ L →
    ∃ g t cs fuel p, P.globalNamed n = some g ∧ (P.globals[g]?).map (·.type) = some t ∧ W.var? P n = some cs ∧ DataW.trod (fun _ => ()) P W 0 (fun _ => true) false fuel t cs.toList = some (d, p)
  | [], _, _, hm => by cases hm
  | (n', d') :: r, ps, h, hm => by
    obtain ⟨g, t, cs, fuel, p, q, h1, h2, h3, h4, h5, _⟩ := h
    rcases List.mem_cons.1 hm with e | hm
    · cases e
      exact ⟨g, t, cs, fuel, p, h1, h2, h3, h4⟩
    · exact laid_mem6 h5 hm
abbrev laidsM : List (String × DataW Unit) := laids28 ++ [("bulla/moments.lengths", Rows.laid_bulla_moments_lengths)]
theorem gLen : Tryd.prog.globalNamed "bulla/moments.lengths" = some 28 := by kernel_rfl
theorem tLen : (Tryd.prog.globals[28]?).map (·.type) = some 63 := by kernel_rfl
theorem c12 : Tryd.prog.cellsOf 63 = 12 := by kernel_rfl
theorem cInt : Tryd.prog.cellsOf 3 = 1 := by kernel_rfl
theorem dLen : (Rows.laid_bulla_moments_lengths : DataW Unit) = Lib.tabData .i64 monthsL := by kernel_rfl
theorem lens_of {W : World} (h : laidMet Tryd.prog laidsM W) : Lens W := by
  obtain ⟨ps, hV, _, _⟩ := h
  obtain ⟨g, t, cs, fuel, p, e1, e2, e3, e4⟩ := laid_mem6 hV (n := "bulla/moments.lengths") (d := Rows.laid_bulla_moments_lengths) (List.mem_append_right _ (.head _))
  obtain rfl := Option.some.inj (gLen.symm.trans e1)
  obtain rfl := Option.some.inj (tLen.symm.trans e2)
  rw [dLen] at e4
  have hT : Lib.TabIs Tryd.prog W "bulla/moments.lengths" .i64 monthsL := by
    unfold Lib.TabIs
    rw [e3, ← Lib.cells_of_tab Tryd.underlying63 Tryd.underlying3 cInt c12 e4]
  refine ⟨fun k hk => ?_⟩
  have := hT.cell gLen k (by simpa [monthsL] using hk)
  exact this
end Go.Proofs.YtndjhhebmbmppaaDoor
