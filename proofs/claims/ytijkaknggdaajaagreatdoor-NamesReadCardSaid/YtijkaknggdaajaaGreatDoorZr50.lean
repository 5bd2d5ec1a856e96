import Derived.Test.YtijkaknggdaajaaGreatDoorZr00
import Derived.Test.YtijkaknggdaajaaGreatDoorZr03
import Derived.Test.YtijkaknggdaajaaGreatDoorZr07
import Derived.Test.YtijkaknggdaajaaGreatDoorZr09
import Derived.Test.YtijkaknggdaajaaGreatDoorZr14
import Derived.Test.YtijkaknggdaajaaGreatDoorZr18
import Derived.Test.YtijkaknggdaajaaGreatDoorZr23
import Derived.Test.YtijkaknggdaajaaGreatDoorZr24
import Derived.Test.YtijkaknggdaajaaGreatDoorZr35
import Derived.Test.YtijkaknggdaajaaGreatDoorZr37
import Derived.Test.YtijkaknggdaajaaGreatDoorZr38
import Derived.Test.YtijkaknggdaajaaGreatDoorZr45
import Derived.Test.YtijkaknggdaajaaGreatDoorZr46
import Derived.Test.YtijkaknggdaajaaGreatDoorZr49
import Derived.Deep.Quiet
import Derived.Deep.QuietTactic
import Derived.BigQuiet
import Derived.StillTail
import Derived.KernelRfl
import Derived.Deep.MidRow
import Derived.WalkKit
import Derived.Laws.IdiomCopy
import Derived.Test.YtijkaknggdaajaaGreatDoorChecked
import Derived.Lib.Strings
import Derived.Lib.Slices
import Derived.Lib.Small
import Derived.Lib.Walk
import Derived.Lib.BitFns
import Derived.Lib.ItoaNum
import Derived.Lib.Tables
import Derived.RegionTactic
import Derived.BigRegion
import Derived.Laws.BitsAllLaws
import Derived.Lib.LaidTab
import Derived.Laws.Cover3
import Derived.Laws.Rows
import Derived.Laws.Tables
set_option linter.unusedVariables false
set_option linter.unusedSimpArgs false
namespace Go.Proofs.YtijkaknggdaajaaGreatDoor
open Go.ChangeShapes Go.WideShapes Go.ChangeAt Go.RowKit
theorem tab_gen {W:World} {L:List (String×DataW Unit)} (h:laidMet Tryz.prog L W) (hm:("internal/strconv.uint64pow10",(Rows.laid_internal_strconv_uint64pow10:DataW Unit))∈L):Tab10 W:=by
 obtain ⟨ps,hV,hnd,hrows⟩:=h
 refine ⟨?_⟩
 obtain ⟨g,t,cs,fuel,p,e1,e2,e3,e4⟩:=laid_mem hV hm
 obtain rfl:=Option.some.inj (gPow.symm.trans e1)
 obtain rfl:=Option.some.inj (tPow.symm.trans e2)
 rw[dPow] at e4
 unfold Lib.TabIs
 rw[e3,←Lib.cells_of_tab Tryz.underlying274 Tryz.underlying189 cU64 c20 e4]
abbrev laidsNR:List (String×DataW Unit):=("math/bits.deBruijn32tab",Rows.laid_math_bits_deBruijn32tab) :: ("math/bits.deBruijn64tab",Rows.laid_math_bits_deBruijn64tab) :: ("internal/strconv.uint64pow10",Rows.laid_internal_strconv_uint64pow10) :: ("unicode/utf8.acceptRanges",Rows.laid_unicode_utf8_acceptRanges) ::
 (laids28++[("bulla/names.words",Rows.laid_bulla_names_words),("unicode/utf8.first",Rows.laid_unicode_utf8_first)])
theorem rowN_of {W:World} (h:laidMet Tryz.prog laidsNR W):∃ A,RdN A W∧Words W:=by
 obtain ⟨A,hE⟩:=allErrs_of h (List.range' 4 28) rfl (by decide)
 have hT:=tab_gen h (.tail _ (.tail _ (.head _)))
 have hWd:=words_of h (.tail _ (.tail _ (.tail _ (.tail _ (List.mem_append_right _ (.head _))))))
 have hU:=u8_of h (.tail _ (.tail _ (.tail _ (.tail _ (List.mem_append_right _ (.tail _ (.head _)))))))
  (.tail _ (.tail _ (.tail _ (.head _))))
 exact ⟨A,⟨hE,xget_any A W hE (plain_any W hU),gt_any_t A W hT hE.sf⟩,hWd⟩
end Go.Proofs.YtijkaknggdaajaaGreatDoor
