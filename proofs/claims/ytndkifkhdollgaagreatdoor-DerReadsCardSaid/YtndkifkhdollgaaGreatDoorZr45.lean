import Derived.Test.YtndkifkhdollgaaGreatDoorZr18
import Derived.Test.YtndkifkhdollgaaGreatDoorZr25
import Derived.Test.YtndkifkhdollgaaGreatDoorZr44
import Derived.Lib.LaidU8T
import Derived.PinnedBridge
import Derived.Lib.LaidTab
set_option linter.unusedVariables false
set_option linter.unusedSimpArgs false
namespace Go.Proofs.YtndkifkhdollgaaGreatDoor
open Go.ChangeShapes Go.WideShapes Go.ChangeAt Go.RowKit
theorem u8X:U8Extra Tryz.prog Tryz.lays196_ren where
 n3:=by kernel_rfl
 n4:=by kernel_rfl
 y3:=by kernel_rfl
 y4:=by kernel_rfl
 c5:=by kernel_rfl
 c119:=by kernel_rfl
 c138:=by kernel_rfl
theorem dAcc:(Rows.laid_unicode_utf8_acceptRanges:DataW Unit)=Lib.acceptData:=by kernel_rfl
theorem dFst:(Rows.laid_unicode_utf8_first:DataW Unit)=Lib.firstData:=Pinned.utf8First_eq
theorem u8_of {W:World} {L:List (String×DataW Unit)} (h:laidMet Tryz.prog L W) (h1:("unicode/utf8.first",(Rows.laid_unicode_utf8_first:DataW Unit))∈L) (h2:("unicode/utf8.acceptRanges",(Rows.laid_unicode_utf8_acceptRanges:DataW Unit))∈L):U8 W:=by
 have r1:=Lib.laidMet.reads h h1
 have r2:=Lib.laidMet.reads h h2
 rw[dFst] at r1
 rw[dAcc] at r2
 exact utf8Tabs_of_readsT (U8Types.of196 Tryz.lays196) u8X r1 r2
theorem laid_mem6 {P:Program} {W:World} {n:String} {d:DataW Unit}:∀ {L:List (String×DataW Unit)} {ps:List MemPlace},DataW.LaidVars P W L ps→(n,d)∈L →
  ∃ g t cs fuel p,P.globalNamed n=some g∧(P.globals[g]?).map (·.type)=some t∧W.var? P n=some cs∧DataW.trod (fun _=>()) P W 0 (fun _=>true) false fuel t cs.toList=some (d,p)
 |[],_,_,hm=>by cases hm
 |(n',d') :: r,ps,h,hm=>by
  obtain ⟨g,t,cs,fuel,p,q,h1,h2,h3,h4,h5,_⟩:=h
  rcases List.mem_cons.1 hm with e|hm
  ·cases e
   exact ⟨g,t,cs,fuel,p,h1,h2,h3,h4⟩
  ·exact laid_mem6 h5 hm
theorem gLen:Tryz.prog.globalNamed "bulla/moments.lengths"=some 32:=by kernel_rfl
theorem tLen:(Tryz.prog.globals[32]?).map (·.type)=some 276:=by kernel_rfl
theorem c12:Tryz.prog.cellsOf 276=12:=by kernel_rfl
theorem mcInt:Tryz.prog.cellsOf 3=1:=by kernel_rfl
theorem dLen:(Rows.laid_bulla_moments_lengths:DataW Unit)=Lib.tabData .i64 monthsL:=by kernel_rfl
end Go.Proofs.YtndkifkhdollgaaGreatDoor
