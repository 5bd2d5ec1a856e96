/- From the rows' conditions of stage 5 to what its walks read: a table and an error of the library's; two errors of package api. -/
import Derived.Test.YtpjhkmdlegjdaaaDoorLf
import Derived.Test.YtpjhkmdlegjdaaaDoorEv
namespace Go.Proofs.YtpjhkmdlegjdaaaDoor
open Go.ChangeShapes Go.WideShapes Go.ChangeAt Go.RowKit

theorem figs_gen {W : World} {L : List (String × DataW Unit)} (h : laidMet Tryd.prog L W) (i : Nat) (hs : L[i]? = some ("strconv.ErrSyntax", Rows.laid_strconv_ErrSyntax)) (hm : ("internal/strconv.uint64pow10", (Rows.laid_internal_strconv_uint64pow10 : DataW Unit)) ∈ L) : ∃ tp p, Figs W tp p := by
  obtain ⟨ps, hV, hnd, hrows⟩ := h
  obtain ⟨A, h1, _⟩ := sents (P := Tryd.prog) (W := W) Tryd.underlying25 rowEs Tryd.underlying136 Tryd.underlying138 rfl rfl Tryd.underlying9 cEs cStr L ps hV hnd hrows
  refine ⟨_, _, ?_, (h1 i _ hs ⟨⟨_, rfl⟩, _, gSyn, tSyn⟩).1⟩
  obtain ⟨g, t, cs, fuel, p, e1, e2, e3, e4⟩ := laid_mem hV hm
  obtain rfl := Option.some.inj (gPow.symm.trans e1)
  obtain rfl := Option.some.inj (tPow.symm.trans e2)
  rw [dPow] at e4
  unfold Lib.TabIs
  rw [e3, ← Lib.cells_of_tab Tryd.underlying122 Tryd.underlying104 cU64 c20 e4]

abbrev laidsP : List (String × DataW Unit) := ("math/bits.deBruijn32tab", Rows.laid_math_bits_deBruijn32tab) :: ("math/bits.deBruijn64tab", Rows.laid_math_bits_deBruijn64tab) :: ("internal/strconv.uint64pow10", Rows.laid_internal_strconv_uint64pow10) :: ("unicode/utf8.acceptRanges", Rows.laid_unicode_utf8_acceptRanges) :: (laids28 ++ [("strconv.ErrRange", Rows.laid_strconv_ErrRange), ("strconv.ErrSyntax", Rows.laid_strconv_ErrSyntax), ("unicode/utf8.first", Rows.laid_unicode_utf8_first)])
theorem figsP_of {W : World} (h : laidMet Tryd.prog laidsP W) : ∃ tp p, Figs W tp p := figs_gen h 33 rfl (.tail _ (.tail _ (.head _)))

abbrev laidsO : List (String × DataW Unit) := [("math/bits.deBruijn32tab", Rows.laid_math_bits_deBruijn32tab), ("math/bits.deBruijn64tab", Rows.laid_math_bits_deBruijn64tab), ("internal/strconv.uint64pow10", Rows.laid_internal_strconv_uint64pow10), ("unicode/utf8.acceptRanges", Rows.laid_unicode_utf8_acceptRanges), ("bulla/api.ErrRange", Rows.laid_bulla_api_ErrRange), ("bulla/api.ErrForm", Rows.laid_bulla_api_ErrForm), ("strconv.ErrRange", Rows.laid_strconv_ErrRange), ("strconv.ErrSyntax", Rows.laid_strconv_ErrSyntax), ("unicode/utf8.first", Rows.laid_unicode_utf8_first)]
theorem figsO_of {W : World} (h : laidMet Tryd.prog laidsO W) : ∃ tp p, Figs W tp p := figs_gen h 7 rfl (.tail _ (.tail _ (.head _)))
theorem gRng : Tryd.prog.globalNamed "bulla/api.ErrRange" = some 0 := by kernel_rfl
theorem tRng : (Tryd.prog.globals[0]?).map (·.type) = some 25 := by kernel_rfl
theorem gFrm : Tryd.prog.globalNamed "bulla/api.ErrForm" = some 3 := by kernel_rfl
theorem tFrm : (Tryd.prog.globals[3]?).map (·.type) = some 25 := by kernel_rfl
theorem rfO_of {W : World} (h : laidMet Tryd.prog laidsO W) : ∃ A, RFErrs W A := by
  obtain ⟨ps, hV, hnd, hrows⟩ := h
  obtain ⟨A, h1, _⟩ := sents (P := Tryd.prog) (W := W) Tryd.underlying25 rowEs Tryd.underlying136 Tryd.underlying138 rfl rfl Tryd.underlying9 cEs cStr laidsO ps hV hnd hrows
  have e1 := (h1 4 ("bulla/api.ErrRange", Rows.laid_bulla_api_ErrRange) rfl ⟨⟨_, rfl⟩, _, gRng, tRng⟩).1
  have e2 := (h1 5 ("bulla/api.ErrForm", Rows.laid_bulla_api_ErrForm) rfl ⟨⟨_, rfl⟩, _, gFrm, tFrm⟩).1
  exact ⟨fun k => if k = 0 then A 4 else A 5, World.var?_cell gRng e1 0, World.var?_cell gFrm e2 0⟩
end Go.Proofs.YtpjhkmdlegjdaaaDoor
