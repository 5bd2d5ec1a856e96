import Derived.Test.YtijkaknggdaajaaGreatDoorZt22
import Derived.Test.YtijkaknggdaajaaGreatDoorZt25
import Derived.Test.YtijkaknggdaajaaGreatDoorZt45
import Derived.Lib.LaidU8T
import Derived.PinnedBridge
import Derived.Test.YtijkaknggdaajaaGreatDoorRows
import Derived.Lib.LaidTab
set_option linter.unusedVariables false
set_option linter.unusedSimpArgs false
set_option maxRecDepth 100000
namespace Go.Proofs.YtijkaknggdaajaaGreatDoor
open Go.ChangeShapes Go.WideShapes Go.ChangeAt Go.RowKit
theorem u8X:U8Extra Tryz.prog Tryz.lays196_ren where
 n3:=by kernel_rfl
 n4:=by kernel_rfl
 y3:=by kernel_rfl
 y4:=by kernel_rfl
 c5:=by kernel_rfl
 c119:=by kernel_rfl
 c138:=by kernel_rfl
theorem dAcc:(Rows.laid_unicode_utf8_acceptRanges:DataW Unit)=Lib.acceptData:=by kernel_rfl
theorem dFst:(Rows.laid_unicode_utf8_first:DataW Unit)=Lib.firstData:=Pinned.utf8First_eq
theorem u8_of {W:World} {L:List (String×DataW Unit)} (h:laidMet Tryz.prog L W) (h1:("unicode/utf8.first",(Rows.laid_unicode_utf8_first:DataW Unit))∈L) (h2:("unicode/utf8.acceptRanges",(Rows.laid_unicode_utf8_acceptRanges:DataW Unit))∈L):U8 W:=by
 have r1:=Lib.laidMet.reads h h1
 have r2:=Lib.laidMet.reads h h2
 rw[dFst] at r1
 rw[dAcc] at r2
 exact utf8Tabs_of_readsT (U8Types.of196 Tryz.lays196) u8X r1 r2
theorem cells_of_strs {H:Type} {enc:TypeId×Value→H} {P:Program} {w:World} {base:Nat} {sp:Nat→Bool} {held:Bool} {fuel:Nat} {t e:TypeId} {n:Nat} {cs:List Value} {zs:List ByteArray} {p:List MemPlace}
  (ht:P.underlying t=some (.array n e)) (he:P.underlying e=some .string) (hce:P.cellsOf e=1) (hct:P.cellsOf t=n)
  (h:DataW.trod enc P w base sp held fuel t cs=some (.agg (zs.map fun z=>.lit (.string z.data.toList)),p)):cs=zs.map fun z=>Value.string z:=by
 cases fuel with
 |zero=>simp[DataW.trod] at h
 |succ fuel =>
  simp only[DataW.trod,ht,hce,hct,Nat.mul_one] at h
  split at h
  ·rename_i hl
   obtain ⟨xs,hm,hx⟩:=Option.map_eq_some_iff.1 h
   have hxs:xs.map (·.1)=zs.map fun z=>(DataW.lit (.string z.data.toList):DataW H):=by
    have:=congrArg Prod.fst hx
    simpa using this
   have hxl:xs.length=n:=by simpa using Lib.mapM_length hm
   have hzl:zs.length=n:=by
    have:=congrArg List.length hxs
    simp at this
    omega
   apply List.ext_getElem?
   intro i
   by_cases hi:i<n
   ·obtain ⟨b,hb,hf⟩:=Lib.mapM_at hm i i (by simp[hi])
    obtain ⟨z,hc,rfl,_⟩:=DataW.trod_string he hf
    have h1:cs[i]?=some (.string z):=by
     have:=congrArg (·[0]?) hc
     simpa [List.getElem?_take,List.getElem?_drop] using this
    have h2:(xs.map (·.1))[i]?=some (DataW.lit (.string z.data.toList):DataW H):=by simp[hb]
    rw[hxs] at h2
    simp only[List.getElem?_map,Option.map_eq_some_iff,DataW.lit.injEq,Lit.string.injEq] at h2
    obtain ⟨z',hz',h3⟩:=h2
    have h4:z'=z:=by
     obtain ⟨a⟩:=z
     obtain ⟨b⟩:=z'
     exact congrArg ByteArray.mk (Array.toList_inj.1 h3)
    subst h4
    simp[h1,hz']
   ·rw[List.getElem?_eq_none (by omega),List.getElem?_eq_none (by simp;omega)]
  ·cases h
theorem gWords:Tryz.prog.globalNamed "bulla/names.words"=some 1:=by kernel_rfl
theorem tWords:(Tryz.prog.globals[1]?).map (·.type)=some 86:=by kernel_rfl
theorem cWords:Tryz.prog.cellsOf 86=6:=by kernel_rfl
theorem cStr9:Tryz.prog.cellsOf 9=1:=by kernel_rfl
theorem dWords:(Rows.laid_bulla_names_words:DataW Unit)=.agg (([Na.word 0,Na.word 1,Na.word 2,Na.word 3,Na.word 4,Na.word 5]).map fun z=>.lit (.string z.data.toList)):=by kernel_rfl
theorem laid_mem9 {P:Program} {W:World} {n:String} {d:DataW Unit}:∀ {L:List (String×DataW Unit)} {ps:List MemPlace},DataW.LaidVars P W L ps→(n,d)∈L →
  ∃ g t cs fuel p,P.globalNamed n=some g∧(P.globals[g]?).map (·.type)=some t∧W.var? P n=some cs∧DataW.trod (fun _=>()) P W 0 (fun _=>true) false fuel t cs.toList=some (d,p)
 |[],_,_,hm=>by cases hm
 |(n',d') :: r,ps,h,hm=>by
  obtain ⟨g,t,cs,fuel,p,q,h1,h2,h3,h4,h5,_⟩:=h
  rcases List.mem_cons.1 hm with e|hm
  ·cases e
   exact ⟨g,t,cs,fuel,p,h1,h2,h3,h4⟩
  ·exact laid_mem9 h5 hm
theorem words_of {W:World} {L:List (String×DataW Unit)} (h:laidMet Tryz.prog L W) (hm:("bulla/names.words",(Rows.laid_bulla_names_words:DataW Unit))∈L):Words W:=by
 obtain ⟨ps,hV,_⟩:=h
 obtain ⟨g,t,cs,fuel,p,e1,e2,e3,e4⟩:=laid_mem9 hV hm
 obtain rfl:=Option.some.inj (gWords.symm.trans e1)
 obtain rfl:=Option.some.inj (tWords.symm.trans e2)
 rw[dWords] at e4
 have hc:=cells_of_strs Tryz.underlying86 Tryz.underlying9 cStr9 cWords e4
 intro k hk
 have:=World.var?_cell gWords e3 k
 rw[this]
 rw[←Array.getElem?_toList,hc]
 match k,hk with
 |0,_=>rfl
 |1,_=>rfl
 |2,_=>rfl
 |3,_=>rfl
 |4,_=>rfl
 |5,_=>rfl
theorem subj_in {w:World} {r:Reach} {base:Nat} {v:Value} (h:Value.okWide Tryz.prog w r base 23 v):∃ s:Na.Sb,v=Na.val s∧-9223372036854775808≤s.k∧s.k≤9223372036854775807:=by
 simp only[Value.okWide,Tryz.underlying23] at h
 obtain ⟨cs,rfl,hsz,ts,hts,_,hall⟩:=h
 have hc:Tryz.prog.cellsOf 23=3:=by kernel_rfl
 have htt:Tryz.prog.cellTypes Tryz.prog.depth 23=some [3,9,9]:=by kernel_rfl
 rw[hts] at htt
 obtain rfl:=Option.some.inj htt
 rw[hc] at hsz
 obtain ⟨u,hu,ok0⟩:=hall 0 cs[0] (Array.getElem?_eq_getElem (by omega))
 obtain rfl:=Option.some.inj hu
 obtain ⟨u,hu,ok1⟩:=hall 1 cs[1] (Array.getElem?_eq_getElem (by omega))
 obtain rfl:=Option.some.inj hu
 obtain ⟨u,hu,ok2⟩:=hall 2 cs[2] (Array.getElem?_eq_getElem (by omega))
 obtain rfl:=Option.some.inj hu
 obtain ⟨n,hn,b1,b2⟩:=int_in (v:=cs[0]) (by simp only[Value.okWide,Tryz.underlying3];exact ok0)
 obtain ⟨s1,hs1⟩:=okWide_string Tryz.underlying9 (by simp only[Value.okWide,Tryz.underlying9];exact ok1)
 obtain ⟨s2,hs2⟩:=okWide_string Tryz.underlying9 (by simp only[Value.okWide,Tryz.underlying9];exact ok2)
 refine ⟨⟨n,s1,s2⟩,?_,b1,b2⟩
 show Value.agg cs=.agg #[.int .i64 n,.string s1,.string s2]
 congr 1
 apply Array.ext_getElem?
 intro i
 match i with
 |0=>rw[Array.getElem?_eq_getElem (by omega),hn];rfl
 |1=>rw[Array.getElem?_eq_getElem (by omega),hs1];rfl
 |2=>rw[Array.getElem?_eq_getElem (by omega),hs2];rfl
 |n+3=>rw[Array.getElem?_eq_none (by omega),Array.getElem?_eq_none (by simp)]
end Go.Proofs.YtijkaknggdaajaaGreatDoor
