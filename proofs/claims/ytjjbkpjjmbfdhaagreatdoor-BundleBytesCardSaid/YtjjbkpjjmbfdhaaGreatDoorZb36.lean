import Derived.Test.YtjjbkpjjmbfdhaaGreatDoorZb22
import Derived.Test.YtjjbkpjjmbfdhaaGreatDoorZb35
import Derived.Lib.LaidU8T
import Derived.PinnedBridge
set_option linter.unusedVariables false
set_option linter.unusedSimpArgs false
namespace Go.Proofs.YtjjbkpjjmbfdhaaGreatDoor
open Go.ChangeShapes Go.WideShapes Go.ChangeAt Go.RowKit
theorem u8X:U8Extra Tryz.prog Tryz.lays196_ren where
 n3:=by kernel_rfl
 n4:=by kernel_rfl
 y3:=by kernel_rfl
 y4:=by kernel_rfl
 c5:=by kernel_rfl
 c119:=by kernel_rfl
 c138:=by kernel_rfl
theorem dAcc:(Rows.laid_unicode_utf8_acceptRanges:DataW Unit)=Lib.acceptData:=by kernel_rfl
theorem dFst:(Rows.laid_unicode_utf8_first:DataW Unit)=Lib.firstData:=Pinned.utf8First_eq
theorem u8_of {W:World} {L:List (String×DataW Unit)} (h:laidMet Tryz.prog L W) (h1:("unicode/utf8.first",(Rows.laid_unicode_utf8_first:DataW Unit))∈L) (h2:("unicode/utf8.acceptRanges",(Rows.laid_unicode_utf8_acceptRanges:DataW Unit))∈L):U8 W:=by
 have r1:=Lib.laidMet.reads h h1
 have r2:=Lib.laidMet.reads h h2
 rw[dFst] at r1
 rw[dAcc] at r2
 exact utf8Tabs_of_readsT (U8Types.of196 Tryz.lays196) u8X r1 r2
end Go.Proofs.YtjjbkpjjmbfdhaaGreatDoor
