import Derived.Test.YtndkifkhdollgaaGreatDoorZr00
import Derived.Test.YtndkifkhdollgaaGreatDoorZr02
import Derived.Shelf.Strconv.Atoi
import Derived.Shelf.Strconv.Itoa3
import Derived.Shelf.LaysM
import Derived.Shelf.LaysC
import Derived.Shelf.Strconv.ErrVar
import Derived.Test.YtndkifkhdollgaaGreatDoorProg
import Derived.Lib.AtoiBound
set_option linter.unusedVariables false
set_option linter.unusedSimpArgs false
namespace Go.Proofs
open Go.Shelf
def Tryz.laysM171_ren:Go.Shelf.Ren:=⟨fun|171=>214|243=>234|246=>246|283=>254|284=>255|285=>256|286=>257|129=>207|317=>261|318=>262|319=>263|320=>264|337=>270|338=>271|n=>n,fun|3=>3|9=>9|2=>2|4=>4|171=>291|0=>0|53=>224|37=>22|5=>5|173=>293|212=>297|51=>248|20=>20|213=>298|46=>223|232=>310|233=>311|n=>n,fun|17=>33|18=>36|19=>37|n=>n⟩
theorem Tryz.laysM171:Go.Proofs.LaysM.n171 Tryz.prog Tryz.laysM171_ren:={
 mixed:=by kernel_rfl
 f129:=Tryz.func207.trans (congrArg some (by kernel_rfl))
 f171:=Tryz.func214.trans (congrArg some (by kernel_rfl))
 f243:=Tryz.func234.trans (congrArg some (by kernel_rfl))
 f246:=Tryz.func246.trans (congrArg some (by kernel_rfl))
 f283:=Tryz.func254.trans (congrArg some (by kernel_rfl))
 f284:=Tryz.func255.trans (congrArg some (by kernel_rfl))
 f285:=Tryz.func256.trans (congrArg some (by kernel_rfl))
 f286:=Tryz.func257.trans (congrArg some (by kernel_rfl))
 f317:=Tryz.func261.trans (congrArg some (by kernel_rfl))
 f318:=Tryz.func262.trans (congrArg some (by kernel_rfl))
 f319:=Tryz.func263.trans (congrArg some (by kernel_rfl))
 f320:=Tryz.func264.trans (congrArg some (by kernel_rfl))
 f337:=Tryz.func270.trans (congrArg some (by kernel_rfl))
 f338:=Tryz.func271.trans (congrArg some (by kernel_rfl))
 t0:=Tryz.underlying0
 a0:=Tryz.isAgg0
 z0:=Tryz.sizeOf0
 v0:=Tryz.zeroValue0
 t2:=Tryz.underlying2
 a2:=Tryz.isAgg2
 z2:=Tryz.sizeOf2
 v2:=Tryz.zeroValue2
 t3:=Tryz.underlying3
 a3:=Tryz.isAgg3
 z3:=Tryz.sizeOf3
 v3:=Tryz.zeroValue3
 t4:=Tryz.underlying4
 a4:=Tryz.isAgg4
 z4:=Tryz.sizeOf4
 v4:=Tryz.zeroValue4
 t5:=Tryz.underlying5
 a5:=Tryz.isAgg5
 z5:=Tryz.sizeOf5
 v5:=Tryz.zeroValue5
 t9:=Tryz.underlying9
 a9:=Tryz.isAgg9
 z9:=Tryz.sizeOf9
 v9:=Tryz.zeroValue9
 t20:=Tryz.underlying20
 a20:=Tryz.isAgg20
 z20:=Tryz.sizeOf20
 v20:=Tryz.zeroValue20
 t37:=Tryz.underlying22
 a37:=Tryz.isAgg22
 z37:=Tryz.sizeOf22
 v37:=Tryz.zeroValue22
 t46:=Tryz.underlying223
 a46:=Tryz.isAgg223
 z46:=Tryz.sizeOf223
 v46:=Tryz.zeroValue223
 t51:=Tryz.underlying248
 a51:=Tryz.isAgg248
 z51:=Tryz.sizeOf248
 v51:=Tryz.zeroValue248
 t53:=Tryz.underlying224
 a53:=Tryz.isAgg224
 z53:=Tryz.sizeOf224
 v53:=Tryz.zeroValue224
 t171:=Tryz.underlying291
 a171:=Tryz.isAgg291
 z171:=Tryz.sizeOf291
 v171:=Tryz.zeroValue291
 t173:=Tryz.underlying293
 a173:=Tryz.isAgg293
 z173:=Tryz.sizeOf293
 v173:=Tryz.zeroValue293
 t212:=Tryz.underlying297
 a212:=Tryz.isAgg297
 z212:=Tryz.sizeOf297
 v212:=Tryz.zeroValue297
 t213:=Tryz.underlying298
 a213:=Tryz.isAgg298
 z213:=Tryz.sizeOf298
 t232:=Tryz.underlying310
 a232:=Tryz.isAgg310
 z232:=Tryz.sizeOf310
 v232:=Tryz.zeroValue310
 t233:=Tryz.underlying311
 a233:=Tryz.isAgg311
 z233:=Tryz.sizeOf311
 v233:=Tryz.zeroValue311
 g17:=by kernel_rfl
 g18:=by kernel_rfl
 g19:=by kernel_rfl
 i0:=by kernel_rfl
 i2:=by kernel_rfl
 i3:=by kernel_rfl
 i4:=by kernel_rfl
 i5:=by kernel_rfl
 i9:=by kernel_rfl
 i20:=by kernel_rfl
 i37:=by kernel_rfl
 i46:=by kernel_rfl
 i51:=by kernel_rfl
 i53:=by kernel_rfl
 i171:=by kernel_rfl
 i173:=by kernel_rfl
 i212:=by kernel_rfl
 i232:=by kernel_rfl
 i233:=by kernel_rfl
 m17:=by kernel_rfl
 m18:=by kernel_rfl
 m19:=by kernel_rfl }
end Go.Proofs
namespace Go.Proofs.YtndkifkhdollgaaGreatDoor
open Go.RowKit
theorem grown_of_below {w w':World} (h:Below w.heap.size w w'):w.grownBy w' none:=⟨h.os,h.tape,h.output,h.size,fun k hk _=>h.block k hk⟩
theorem grown_grow (w:World) (k:Nat) (os:Array Obj):w.grownBy (Sort.grow (w.drewN k) os) none :=
 ⟨rfl,rfl,rfl,by simp[Sort.grow],fun j hj _=>by
  show (w.heap++os)[j]?=w.heap[j]?
  rw[Array.getElem?_append_left hj]⟩
theorem var_grown {w w':World} {name:String} {cs:Array Value} (h:w.var? Tryz.prog name=some cs) (hg:w.grownBy w' none):w'.var? Tryz.prog name=some cs:=by
 unfold World.var? at h ⊢
 cases hn:Tryz.prog.globalNamed name with
 |none=>rw[hn] at h;cases h
 |some g =>
  rw[hn] at h
  simp only[Option.bind_some] at h ⊢
  rcases Nat.lt_or_ge g w.heap.size with hl|hl
  ·rw[hg.block g hl (by simp)];exact h
  ·rw[Array.getElem?_eq_none hl] at h;cases h
structure Figs (w:World) (tp:TypeId) (p:Value):Prop where
 tab:Lib.TabIs Tryz.prog w "internal/strconv.uint64pow10" .u64 Lib.pow10Tab
 err:w.var? Tryz.prog "strconv.ErrSyntax"=some #[.iface tp p]
theorem Figs.grown {w w':World} {tp:TypeId} {p:Value} (h:Figs w tp p) (hg:w.grownBy w' none):Figs w' tp p:=⟨var_grown h.tab hg,var_grown h.err hg⟩
theorem decDigits_dig:∀ u:Nat,u<100000000000000000000→(Lib.decDigits u).map (·.toNat)=Wh.dig u:=fun u hu=>by
 refine Wh.dig_ind (P:=fun u=>(Lib.decDigits u).map (·.toNat)=Wh.dig u) (fun n hn=>?_) (fun n h10 hn ih=>?_) u hu
 ·rw[Lib.decDigits_one hn,Wh.dig_small hn]
  simp
  omega
 ·rw[Lib.decDigits,dif_neg (by omega),List.map_append,ih,Wh.dig_step h10 hn]
  simp
  omega
theorem itoa_text (u:Nat) (hu:u<100000000000000000000):(⟨(Lib.itoa (u:Int)).toArray⟩:ByteArray)=strOf (Wh.dig u):=by
 apply strL_inj
 rw[strL_strOf (fun x hx=>by
  have:=List.all_eq_true.1 (Wh.dig_fig u hu) x hx
  simp[Wh.fig] at this
  omega)]
 rw[strL,Lib.itoa,if_neg (by omega),Int.toNat_natCast]
 exact decDigits_dig u hu
end Go.Proofs.YtndkifkhdollgaaGreatDoor
