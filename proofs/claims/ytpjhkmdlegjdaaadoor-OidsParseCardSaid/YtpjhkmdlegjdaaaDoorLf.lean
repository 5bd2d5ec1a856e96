/- From a row's condition to what Itoa and Atoi read: a table and an error of the library's. -/
import Derived.Test.YtpjhkmdlegjdaaaDoorNm3
import Derived.Test.YtpjhkmdlegjdaaaDoorSc
import Derived.Lib.LaidTab
namespace Go.Proofs.YtpjhkmdlegjdaaaDoor
open Go.ChangeShapes Go.WideShapes Go.ChangeAt Go.RowKit

theorem laid_mem {P : Program} {W : World} {n : String} {d : DataW Unit} : ∀ {L : List (String × DataW Unit)} {ps : List MemPlace}, DataW.LaidVars P W L ps → (n, d) ∈ L →
    ∃ g t cs fuel p, P.globalNamed n = some g ∧ (P.globals[g]?).map (·.type) = some t ∧ W.var? P n = some cs ∧ DataW.trod (fun _ => ()) P W 0 (fun _ => true) false fuel t cs.toList = some (d, p)
  | [], _, _, hm => by cases hm
  | (n', d') :: r, ps, h, hm => by
    obtain ⟨g, t, cs, fuel, p, q, h1, h2, h3, h4, h5, _⟩ := h
    rcases List.mem_cons.1 hm with e | hm
    · cases e
      exact ⟨g, t, cs, fuel, p, h1, h2, h3, h4⟩
    · exact laid_mem h5 hm

abbrev laidsF : List (String × DataW Unit) := ("math/bits.deBruijn32tab", Rows.laid_math_bits_deBruijn32tab) :: ("math/bits.deBruijn64tab", Rows.laid_math_bits_deBruijn64tab) :: ("internal/strconv.uint64pow10", Rows.laid_internal_strconv_uint64pow10) :: (laids28 ++ [("strconv.ErrRange", Rows.laid_strconv_ErrRange), ("strconv.ErrSyntax", Rows.laid_strconv_ErrSyntax)])

theorem gPow : Tryd.prog.globalNamed "internal/strconv.uint64pow10" = some 31 := by kernel_rfl
theorem tPow : (Tryd.prog.globals[31]?).map (·.type) = some 122 := by kernel_rfl
theorem c20 : Tryd.prog.cellsOf 122 = 20 := by kernel_rfl
theorem cU64 : Tryd.prog.cellsOf 104 = 1 := by kernel_rfl
theorem gSyn : Tryd.prog.globalNamed "strconv.ErrSyntax" = some 32 := by kernel_rfl
theorem tSyn : (Tryd.prog.globals[32]?).map (·.type) = some 25 := by kernel_rfl
theorem dPow : (Rows.laid_internal_strconv_uint64pow10 : DataW Unit) = Lib.tabData .u64 Lib.pow10Tab := by kernel_rfl

theorem figs_of {W : World} (h : laidMet Tryd.prog laidsF W) : ∃ tp p, Figs W tp p := by
  obtain ⟨ps, hV, hnd, hrows⟩ := h
  obtain ⟨A, h1, _⟩ := sents (P := Tryd.prog) (W := W) Tryd.underlying25 rowEs Tryd.underlying136 Tryd.underlying138 rfl rfl Tryd.underlying9 cEs cStr laidsF ps hV hnd hrows
  have hs : laidsF[32]? = some ("strconv.ErrSyntax", Rows.laid_strconv_ErrSyntax) := rfl
  refine ⟨_, _, ?_, (h1 32 _ hs ⟨⟨_, rfl⟩, _, gSyn, tSyn⟩).1⟩
  obtain ⟨g, t, cs, fuel, p, e1, e2, e3, e4⟩ := laid_mem hV (n := "internal/strconv.uint64pow10") (d := Rows.laid_internal_strconv_uint64pow10) (.tail _ (.tail _ (.head _)))
  obtain rfl := Option.some.inj (gPow.symm.trans e1)
  obtain rfl := Option.some.inj (tPow.symm.trans e2)
  rw [dPow] at e4
  unfold Lib.TabIs
  rw [e3, ← Lib.cells_of_tab Tryd.underlying122 Tryd.underlying104 cU64 c20 e4]
end Go.Proofs.YtpjhkmdlegjdaaaDoor
