import Derived.Test.YtijkaknggdaajaaGreatDoorZt10
import Derived.Test.YtijkaknggdaajaaGreatDoorZt13
import Derived.Test.YtijkaknggdaajaaGreatDoorZt25
import Derived.Lib.LaidTab
set_option linter.unusedVariables false
set_option linter.unusedSimpArgs false
namespace Go.Proofs.YtijkaknggdaajaaGreatDoor
open Go.ChangeShapes Go.WideShapes Go.ChangeAt Go.RowKit
theorem laid_mem {P:Program} {W:World} {n:String} {d:DataW Unit}:∀ {L:List (String×DataW Unit)} {ps:List MemPlace},DataW.LaidVars P W L ps→(n,d)∈L →
  ∃ g t cs fuel p,P.globalNamed n=some g∧(P.globals[g]?).map (·.type)=some t∧W.var? P n=some cs∧DataW.trod (fun _=>()) P W 0 (fun _=>true) false fuel t cs.toList=some (d,p)
 |[],_,_,hm=>by cases hm
 |(n',d') :: r,ps,h,hm=>by
  obtain ⟨g,t,cs,fuel,p,q,h1,h2,h3,h4,h5,_⟩:=h
  rcases List.mem_cons.1 hm with e|hm
  ·cases e
   exact ⟨g,t,cs,fuel,p,h1,h2,h3,h4⟩
  ·exact laid_mem h5 hm
theorem gPow:Tryz.prog.globalNamed "internal/strconv.uint64pow10"=some 32:=by kernel_rfl
theorem tPow:(Tryz.prog.globals[32]?).map (·.type)=some 274:=by kernel_rfl
theorem c20:Tryz.prog.cellsOf 274=20:=by kernel_rfl
theorem cU64:Tryz.prog.cellsOf 189=1:=by kernel_rfl
theorem gSyn:Tryz.prog.globalNamed "strconv.ErrSyntax"=some 33:=by kernel_rfl
theorem tSyn:(Tryz.prog.globals[33]?).map (·.type)=some 28:=by kernel_rfl
theorem dPow:(Rows.laid_internal_strconv_uint64pow10:DataW Unit)=Lib.tabData .u64 Lib.pow10Tab:=by kernel_rfl
theorem figs_gen {W:World} {L:List (String×DataW Unit)} (h:laidMet Tryz.prog L W) (i:Nat) (hs:L[i]?=some ("strconv.ErrSyntax",Rows.laid_strconv_ErrSyntax)) (hm:("internal/strconv.uint64pow10",(Rows.laid_internal_strconv_uint64pow10:DataW Unit))∈L):∃ tp p,Figs W tp p:=by
 obtain ⟨ps,hV,hnd,hrows⟩:=h
 obtain ⟨A,h1,_⟩:=sents (P:=Tryz.prog) (W:=W) Tryz.underlying28 rowEs Tryz.underlying282 Tryz.underlying284 rfl rfl Tryz.underlying9 cEs cStr L ps hV hnd hrows
 refine ⟨_,_,?_,(h1 i _ hs ⟨⟨_,rfl⟩,_,gSyn,tSyn⟩).1⟩
 obtain ⟨g,t,cs,fuel,p,e1,e2,e3,e4⟩:=laid_mem hV hm
 obtain rfl:=Option.some.inj (gPow.symm.trans e1)
 obtain rfl:=Option.some.inj (tPow.symm.trans e2)
 rw[dPow] at e4
 unfold Lib.TabIs
 rw[e3,←Lib.cells_of_tab Tryz.underlying274 Tryz.underlying189 cU64 c20 e4]
end Go.Proofs.YtijkaknggdaajaaGreatDoor
