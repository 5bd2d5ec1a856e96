import Derived.Test.YtijkaknggdaajaaGreatDoorZr05
import Derived.Test.YtijkaknggdaajaaGreatDoorZr23
import Derived.Test.YtijkaknggdaajaaGreatDoorRows
import Derived.Lib.LaidTab
set_option linter.unusedVariables false
set_option linter.unusedSimpArgs false
namespace Go.Proofs.YtijkaknggdaajaaGreatDoor
open Go.ChangeShapes Go.WideShapes Go.ChangeAt Go.RowKit
theorem cells_of_strs {H:Type} {enc:TypeId×Value→H} {P:Program} {w:World} {base:Nat} {sp:Nat→Bool} {held:Bool} {fuel:Nat} {t e:TypeId} {n:Nat} {cs:List Value} {zs:List ByteArray} {p:List MemPlace}
  (ht:P.underlying t=some (.array n e)) (he:P.underlying e=some .string) (hce:P.cellsOf e=1) (hct:P.cellsOf t=n)
  (h:DataW.trod enc P w base sp held fuel t cs=some (.agg (zs.map fun z=>.lit (.string z.data.toList)),p)):cs=zs.map fun z=>Value.string z:=by
 cases fuel with
 |zero=>simp[DataW.trod] at h
 |succ fuel =>
  simp only[DataW.trod,ht,hce,hct,Nat.mul_one] at h
  split at h
  ·rename_i hl
   obtain ⟨xs,hm,hx⟩:=Option.map_eq_some_iff.1 h
   have hxs:xs.map (·.1)=zs.map fun z=>(DataW.lit (.string z.data.toList):DataW H):=by
    have:=congrArg Prod.fst hx
    simpa using this
   have hxl:xs.length=n:=by simpa using Lib.mapM_length hm
   have hzl:zs.length=n:=by
    have:=congrArg List.length hxs
    simp at this
    omega
   apply List.ext_getElem?
   intro i
   by_cases hi:i<n
   ·obtain ⟨b,hb,hf⟩:=Lib.mapM_at hm i i (by simp[hi])
    obtain ⟨z,hc,rfl,_⟩:=DataW.trod_string he hf
    have h1:cs[i]?=some (.string z):=by
     have:=congrArg (·[0]?) hc
     simpa [List.getElem?_take,List.getElem?_drop] using this
    have h2:(xs.map (·.1))[i]?=some (DataW.lit (.string z.data.toList):DataW H):=by simp[hb]
    rw[hxs] at h2
    simp only[List.getElem?_map,Option.map_eq_some_iff,DataW.lit.injEq,Lit.string.injEq] at h2
    obtain ⟨z',hz',h3⟩:=h2
    have h4:z'=z:=by
     obtain ⟨a⟩:=z
     obtain ⟨b⟩:=z'
     exact congrArg ByteArray.mk (Array.toList_inj.1 h3)
    subst h4
    simp[h1,hz']
   ·rw[List.getElem?_eq_none (by omega),List.getElem?_eq_none (by simp;omega)]
  ·cases h
theorem gWords:Tryz.prog.globalNamed "bulla/names.words"=some 1:=by kernel_rfl
theorem tWords:(Tryz.prog.globals[1]?).map (·.type)=some 86:=by kernel_rfl
theorem cWords:Tryz.prog.cellsOf 86=6:=by kernel_rfl
theorem cStr9:Tryz.prog.cellsOf 9=1:=by kernel_rfl
theorem dWords:(Rows.laid_bulla_names_words:DataW Unit)=.agg (([Na.word 0,Na.word 1,Na.word 2,Na.word 3,Na.word 4,Na.word 5]).map fun z=>.lit (.string z.data.toList)):=by kernel_rfl
theorem laid_mem9 {P:Program} {W:World} {n:String} {d:DataW Unit}:∀ {L:List (String×DataW Unit)} {ps:List MemPlace},DataW.LaidVars P W L ps→(n,d)∈L →
  ∃ g t cs fuel p,P.globalNamed n=some g∧(P.globals[g]?).map (·.type)=some t∧W.var? P n=some cs∧DataW.trod (fun _=>()) P W 0 (fun _=>true) false fuel t cs.toList=some (d,p)
 |[],_,_,hm=>by cases hm
 |(n',d') :: r,ps,h,hm=>by
  obtain ⟨g,t,cs,fuel,p,q,h1,h2,h3,h4,h5,_⟩:=h
  rcases List.mem_cons.1 hm with e|hm
  ·cases e
   exact ⟨g,t,cs,fuel,p,h1,h2,h3,h4⟩
  ·exact laid_mem9 h5 hm
theorem words_of {W:World} {L:List (String×DataW Unit)} (h:laidMet Tryz.prog L W) (hm:("bulla/names.words",(Rows.laid_bulla_names_words:DataW Unit))∈L):Words W:=by
 obtain ⟨ps,hV,_⟩:=h
 obtain ⟨g,t,cs,fuel,p,e1,e2,e3,e4⟩:=laid_mem9 hV hm
 obtain rfl:=Option.some.inj (gWords.symm.trans e1)
 obtain rfl:=Option.some.inj (tWords.symm.trans e2)
 rw[dWords] at e4
 have hc:=cells_of_strs Tryz.underlying86 Tryz.underlying9 cStr9 cWords e4
 intro k hk
 have:=World.var?_cell gWords e3 k
 rw[this]
 rw[←Array.getElem?_toList,hc]
 match k,hk with
 |0,_=>rfl
 |1,_=>rfl
 |2,_=>rfl
 |3,_=>rfl
 |4,_=>rfl
 |5,_=>rfl
end Go.Proofs.YtijkaknggdaajaaGreatDoor
