import Derived.Test.YtijkaknggdaajaaGreatDoorZr11
import Derived.Test.YtijkaknggdaajaaGreatDoorZr23
import Derived.Lib.LaidTab
set_option linter.unusedVariables false
set_option linter.unusedSimpArgs false
namespace Go.Proofs.YtijkaknggdaajaaGreatDoor
open Go.ChangeShapes Go.WideShapes Go.ChangeAt Go.RowKit
theorem laid_mem {P:Program} {W:World} {n:String} {d:DataW Unit}:∀ {L:List (String×DataW Unit)} {ps:List MemPlace},DataW.LaidVars P W L ps→(n,d)∈L →
  ∃ g t cs fuel p,P.globalNamed n=some g∧(P.globals[g]?).map (·.type)=some t∧W.var? P n=some cs∧DataW.trod (fun _=>()) P W 0 (fun _=>true) false fuel t cs.toList=some (d,p)
 |[],_,_,hm=>by cases hm
 |(n',d') :: r,ps,h,hm=>by
  obtain ⟨g,t,cs,fuel,p,q,h1,h2,h3,h4,h5,_⟩:=h
  rcases List.mem_cons.1 hm with e|hm
  ·cases e
   exact ⟨g,t,cs,fuel,p,h1,h2,h3,h4⟩
  ·exact laid_mem h5 hm
theorem gPow:Tryz.prog.globalNamed "internal/strconv.uint64pow10"=some 32:=by kernel_rfl
theorem tPow:(Tryz.prog.globals[32]?).map (·.type)=some 274:=by kernel_rfl
theorem c20:Tryz.prog.cellsOf 274=20:=by kernel_rfl
theorem cU64:Tryz.prog.cellsOf 189=1:=by kernel_rfl
theorem dPow:(Rows.laid_internal_strconv_uint64pow10:DataW Unit)=Lib.tabData .u64 Lib.pow10Tab:=by kernel_rfl
end Go.Proofs.YtijkaknggdaajaaGreatDoor
