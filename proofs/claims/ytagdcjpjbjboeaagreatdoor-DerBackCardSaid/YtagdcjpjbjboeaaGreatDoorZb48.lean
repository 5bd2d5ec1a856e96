import Derived.Test.YtagdcjpjbjboeaaGreatDoorZb26
import Derived.Test.YtagdcjpjbjboeaaGreatDoorZb33
import Derived.Test.YtagdcjpjbjboeaaGreatDoorZb34
import Derived.Test.YtagdcjpjbjboeaaGreatDoorZb36
import Derived.Test.YtagdcjpjbjboeaaGreatDoorZb43
import Derived.Test.YtagdcjpjbjboeaaGreatDoorZb44
import Derived.Test.YtagdcjpjbjboeaaGreatDoorZb45
import Derived.Test.YtagdcjpjbjboeaaGreatDoorZb46
namespace Go.Proofs.YtagdcjpjbjboeaaGreatDoor
open Go.ChangeShapes Go.WideShapes Go.ChangeAt Go.RowKit
abbrev laidsD : List (String × DataW Unit) := ("math/bits.deBruijn32tab", Rows.laid_math_bits_deBruijn32tab) :: ("math/bits.deBruijn64tab", Rows.laid_math_bits_deBruijn64tab) :: ("internal/strconv.uint64pow10", Rows.laid_internal_strconv_uint64pow10) :: ("unicode/utf8.acceptRanges", Rows.laid_unicode_utf8_acceptRanges) ::
  (laids9 ++ [("bulla/moments.lengths", Rows.laid_bulla_moments_lengths), ("strconv.ErrRange", Rows.laid_strconv_ErrRange), ("strconv.ErrSyntax", Rows.laid_strconv_ErrSyntax), ("unicode/utf8.first", Rows.laid_unicode_utf8_first)])
theorem lens_gen {W : World} {L : List (String × DataW Unit)} (h : laidMet Tryz.prog L W) (hm : ("bulla/moments.lengths", (Rows.laid_bulla_moments_lengths : DataW Unit)) ∈ L) : Lens W := by
  obtain ⟨ps, hV, _, _⟩ := h
  obtain ⟨g, t, cs, fuel, p, e1, e2, e3, e4⟩ := laid_mem6 hV hm
  obtain rfl := Option.some.inj (gLen.symm.trans e1)
  obtain rfl := Option.some.inj (tLen.symm.trans e2)
  rw [dLen] at e4
  have hT : Lib.TabIs Tryz.prog W "bulla/moments.lengths" .i64 monthsL := by
    unfold Lib.TabIs
    rw [e3, ← Lib.cells_of_tab Tryz.underlying290 Tryz.underlying3 mcInt c12 e4]
  refine ⟨fun k hk => ?_⟩
  have := hT.cell gLen k (by simpa [monthsL] using hk)
  exact this
/-- All that stage 8's walks read. -/
structure RowD (A : Nat → Addr) (tp : TypeId) (p : Value) (W : World) : Prop where
  errs : AllErrs W A
  figs : Figs W tp p
  lens : Lens W
  u8 : U8 W
theorem rowD_of {W : World} (h : laidMet Tryz.prog laidsD W) : ∃ A tp p, RowD A tp p W := by
  obtain ⟨A, hE⟩ := allErrs_of h (List.range' 4 9) rfl
  obtain ⟨tp, p, hF⟩ := figs_gen h 15 rfl (.tail _ (.tail _ (.head _)))
  have hL := lens_gen h (.tail _ (.tail _ (.tail _ (.tail _ (List.mem_append_right _ (.head _))))))
  have hU := u8_of h (.tail _ (.tail _ (.tail _ (.tail _ (List.mem_append_right _ (.tail _ (.tail _ (.tail _ (.head _)))))))))
    (.tail _ (.tail _ (.tail _ (.head _))))
  exact ⟨A, tp, p, hE, hF, hL, hU⟩
theorem RowD.bodies {A : Nat → Addr} {tp : TypeId} {p : Value} {W : World} (h : RowD A tp p W) : BodiesOf A W :=
  ⟨h.errs, xput_any A W h.errs (plain_any W h.u8), flags_any A W h.errs.rng, (mo_all A W h.errs h.lens).put, pt_spec A tp p W h.figs h.errs.rf⟩
theorem RowD.reads {A : Nat → Addr} {tp : TypeId} {p : Value} {W : World} (h : RowD A tp p W) : ReadsOf A W :=
  ⟨h.errs, mGet_any A W h.errs h.lens, mask_any A W h.errs, xget_any A W h.errs (plain_any W h.u8), gt_any A tp p W h.figs h.errs.sf⟩
end Go.Proofs.YtagdcjpjbjboeaaGreatDoor
