import Derived.Test.YtpjhkmdlegjdaaaGreatDoorZw29
import Derived.Test.YtpjhkmdlegjdaaaGreatDoorZw38
import Derived.Lib.LaidTab
set_option linter.unusedVariables false
set_option linter.unusedSimpArgs false
namespace Go.Proofs.YtpjhkmdlegjdaaaGreatDoor
open Go.ChangeShapes Go.WideShapes Go.ChangeAt Go.RowKit
theorem mo_all (A : Nat → Addr) (W : World) (hE : AllErrs W A) (hL : Lens W) : MoAll A W where
  of := mOf_any A W hE hL
  put := mPut_any A W hE hL
  sec := mSec_any A W hE hL
  get := mGet_any A W hE hL
  leap := fun y W' _ _ => (mLeap_any y W').mono (fun e w' h => ⟨by rw [h.2]; exact grown_refl _ _, h.1⟩)
  days := fun y m W' _ _ hg => (mDays_any y m W' (hL.grown hg)).mono (fun e w' h => ⟨h.2, h.1⟩)
theorem laid_mem6 {P : Program} {W : World} {n : String} {d : DataW Unit} : ∀ {L : List (String × DataW Unit)} {ps : List MemPlace}, DataW.LaidVars P W L ps → (n, d) ∈ L →
    ∃ g t cs fuel p, P.globalNamed n = some g ∧ (P.globals[g]?).map (·.type) = some t ∧ W.var? P n = some cs ∧ DataW.trod (fun _ => ()) P W 0 (fun _ => true) false fuel t cs.toList = some (d, p)
  | [], _, _, hm => by cases hm
  | (n', d') :: r, ps, h, hm => by
    obtain ⟨g, t, cs, fuel, p, q, h1, h2, h3, h4, h5, _⟩ := h
    rcases List.mem_cons.1 hm with e | hm
    · cases e
      exact ⟨g, t, cs, fuel, p, h1, h2, h3, h4⟩
    · exact laid_mem6 h5 hm
theorem gLen : Tryz.prog.globalNamed "bulla/moments.lengths" = some 31 := by kernel_rfl
theorem tLen : (Tryz.prog.globals[31]?).map (·.type) = some 240 := by kernel_rfl
theorem c12 : Tryz.prog.cellsOf 240 = 12 := by kernel_rfl
theorem mcInt : Tryz.prog.cellsOf 3 = 1 := by kernel_rfl
theorem dLen : (Rows.laid_bulla_moments_lengths : DataW Unit) = Lib.tabData .i64 monthsL := by kernel_rfl
end Go.Proofs.YtpjhkmdlegjdaaaGreatDoor
