import Derived.Test.YtndkifkhdollgaaGreatDoorZr10
import Derived.Test.YtndkifkhdollgaaGreatDoorZr26
import Derived.Test.YtndkifkhdollgaaGreatDoorZr37
import Derived.Test.YtndkifkhdollgaaGreatDoorZr44
import Derived.Test.YtndkifkhdollgaaGreatDoorZr45
import Derived.Test.YtndkifkhdollgaaGreatDoorZr46
import Derived.Test.YtndkifkhdollgaaGreatDoorZr47
set_option linter.unusedVariables false
set_option linter.unusedSimpArgs false
namespace Go.Proofs.YtndkifkhdollgaaGreatDoor
open Go.ChangeShapes Go.WideShapes Go.ChangeAt Go.RowKit
abbrev laidsDR:List (String×DataW Unit):=("math/bits.deBruijn32tab",Rows.laid_math_bits_deBruijn32tab) :: ("math/bits.deBruijn64tab",Rows.laid_math_bits_deBruijn64tab) :: ("internal/strconv.uint64pow10",Rows.laid_internal_strconv_uint64pow10) :: ("unicode/utf8.acceptRanges",Rows.laid_unicode_utf8_acceptRanges) ::
 (laids28++[("bulla/moments.lengths",Rows.laid_bulla_moments_lengths),("unicode/utf8.first",Rows.laid_unicode_utf8_first)])
theorem lens_gen {W:World} {L:List (String×DataW Unit)} (h:laidMet Tryz.prog L W) (hm:("bulla/moments.lengths",(Rows.laid_bulla_moments_lengths:DataW Unit))∈L):Lens W:=by
 obtain ⟨ps,hV,_,_⟩:=h
 obtain ⟨g,t,cs,fuel,p,e1,e2,e3,e4⟩:=laid_mem6 hV hm
 obtain rfl:=Option.some.inj (gLen.symm.trans e1)
 obtain rfl:=Option.some.inj (tLen.symm.trans e2)
 rw[dLen] at e4
 have hT:Lib.TabIs Tryz.prog W "bulla/moments.lengths" .i64 monthsL:=by
  unfold Lib.TabIs
  rw[e3,←Lib.cells_of_tab Tryz.underlying276 Tryz.underlying3 mcInt c12 e4]
 refine ⟨fun k hk=>?_⟩
 have:=hT.cell gLen k (by simpa [monthsL] using hk)
 exact this
theorem tab_gen {W:World} {L:List (String×DataW Unit)} (h:laidMet Tryz.prog L W) (hm:("internal/strconv.uint64pow10",(Rows.laid_internal_strconv_uint64pow10:DataW Unit))∈L):Tab10 W:=by
 obtain ⟨ps,hV,hnd,hrows⟩:=h
 refine ⟨?_⟩
 obtain ⟨g,t,cs,fuel,p,e1,e2,e3,e4⟩:=laid_mem hV hm
 obtain rfl:=Option.some.inj (gPow.symm.trans e1)
 obtain rfl:=Option.some.inj (tPow.symm.trans e2)
 rw[dPow] at e4
 unfold Lib.TabIs
 rw[e3,←Lib.cells_of_tab Tryz.underlying297 Tryz.underlying224 cU64 c20 e4]
theorem rowR_of {W:World} (h:laidMet Tryz.prog laidsDR W):∃ A,ReadsOf A W:=by
 obtain ⟨A,hE⟩:=allErrs_of h (List.range' 4 28) rfl (by decide)
 have hT:=tab_gen h (.tail _ (.tail _ (.head _)))
 have hL:=lens_gen h (.tail _ (.tail _ (.tail _ (.tail _ (List.mem_append_right _ (.head _))))))
 have hU:=u8_of h (.tail _ (.tail _ (.tail _ (.tail _ (List.mem_append_right _ (.tail _ (.head _)))))))
  (.tail _ (.tail _ (.tail _ (.head _))))
 exact ⟨A,hE,mGet_any A W hE hL,mask_any A W hE,xget_any A W hE (plain_any W hU),gt_any_t A W hT hE.sf⟩
end Go.Proofs.YtndkifkhdollgaaGreatDoor
