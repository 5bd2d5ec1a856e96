import Derived.Test.YtijkaknggdaajaaGreatDoorZr00
import Derived.Test.YtijkaknggdaajaaGreatDoorZr03
import Derived.Shelf.Strconv.Atoi
import Derived.Shelf.Strconv.Itoa3
import Derived.Shelf.LaysM
import Derived.Shelf.LaysC
import Derived.Shelf.Strconv.ErrVar
import Derived.Test.YtijkaknggdaajaaGreatDoorProg
import Derived.Lib.AtoiBound
set_option linter.unusedVariables false
set_option linter.unusedSimpArgs false
namespace Go.Proofs
open Go.Shelf
def Tryz.laysM171_ren:Go.Shelf.Ren:=⟨fun|171=>194|243=>206|246=>214|283=>220|284=>221|285=>222|286=>223|129=>167|317=>229|318=>230|319=>231|320=>232|337=>236|338=>237|n=>n,fun|3=>3|9=>9|2=>2|4=>4|171=>263|0=>0|53=>189|37=>33|5=>5|173=>265|212=>274|51=>216|20=>20|213=>275|46=>190|232=>285|233=>286|n=>n,fun|17=>32|18=>35|19=>36|n=>n⟩
theorem Tryz.laysM171:Go.Proofs.LaysM.n171 Tryz.prog Tryz.laysM171_ren:={
 mixed:=by kernel_rfl
 f129:=Tryz.func167.trans (congrArg some (by kernel_rfl))
 f171:=Tryz.func194.trans (congrArg some (by kernel_rfl))
 f243:=Tryz.func206.trans (congrArg some (by kernel_rfl))
 f246:=Tryz.func214.trans (congrArg some (by kernel_rfl))
 f283:=Tryz.func220.trans (congrArg some (by kernel_rfl))
 f284:=Tryz.func221.trans (congrArg some (by kernel_rfl))
 f285:=Tryz.func222.trans (congrArg some (by kernel_rfl))
 f286:=Tryz.func223.trans (congrArg some (by kernel_rfl))
 f317:=Tryz.func229.trans (congrArg some (by kernel_rfl))
 f318:=Tryz.func230.trans (congrArg some (by kernel_rfl))
 f319:=Tryz.func231.trans (congrArg some (by kernel_rfl))
 f320:=Tryz.func232.trans (congrArg some (by kernel_rfl))
 f337:=Tryz.func236.trans (congrArg some (by kernel_rfl))
 f338:=Tryz.func237.trans (congrArg some (by kernel_rfl))
 t0:=Tryz.underlying0
 a0:=Tryz.isAgg0
 z0:=Tryz.sizeOf0
 v0:=Tryz.zeroValue0
 t2:=Tryz.underlying2
 a2:=Tryz.isAgg2
 z2:=Tryz.sizeOf2
 v2:=Tryz.zeroValue2
 t3:=Tryz.underlying3
 a3:=Tryz.isAgg3
 z3:=Tryz.sizeOf3
 v3:=Tryz.zeroValue3
 t4:=Tryz.underlying4
 a4:=Tryz.isAgg4
 z4:=Tryz.sizeOf4
 v4:=Tryz.zeroValue4
 t5:=Tryz.underlying5
 a5:=Tryz.isAgg5
 z5:=Tryz.sizeOf5
 v5:=Tryz.zeroValue5
 t9:=Tryz.underlying9
 a9:=Tryz.isAgg9
 z9:=Tryz.sizeOf9
 v9:=Tryz.zeroValue9
 t20:=Tryz.underlying20
 a20:=Tryz.isAgg20
 z20:=Tryz.sizeOf20
 v20:=Tryz.zeroValue20
 t37:=Tryz.underlying33
 a37:=Tryz.isAgg33
 z37:=Tryz.sizeOf33
 v37:=Tryz.zeroValue33
 t46:=Tryz.underlying190
 a46:=Tryz.isAgg190
 z46:=Tryz.sizeOf190
 v46:=Tryz.zeroValue190
 t51:=Tryz.underlying216
 a51:=Tryz.isAgg216
 z51:=Tryz.sizeOf216
 v51:=Tryz.zeroValue216
 t53:=Tryz.underlying189
 a53:=Tryz.isAgg189
 z53:=Tryz.sizeOf189
 v53:=Tryz.zeroValue189
 t171:=Tryz.underlying263
 a171:=Tryz.isAgg263
 z171:=Tryz.sizeOf263
 v171:=Tryz.zeroValue263
 t173:=Tryz.underlying265
 a173:=Tryz.isAgg265
 z173:=Tryz.sizeOf265
 v173:=Tryz.zeroValue265
 t212:=Tryz.underlying274
 a212:=Tryz.isAgg274
 z212:=Tryz.sizeOf274
 v212:=Tryz.zeroValue274
 t213:=Tryz.underlying275
 a213:=Tryz.isAgg275
 z213:=Tryz.sizeOf275
 t232:=Tryz.underlying285
 a232:=Tryz.isAgg285
 z232:=Tryz.sizeOf285
 v232:=Tryz.zeroValue285
 t233:=Tryz.underlying286
 a233:=Tryz.isAgg286
 z233:=Tryz.sizeOf286
 v233:=Tryz.zeroValue286
 g17:=by kernel_rfl
 g18:=by kernel_rfl
 g19:=by kernel_rfl
 i0:=by kernel_rfl
 i2:=by kernel_rfl
 i3:=by kernel_rfl
 i4:=by kernel_rfl
 i5:=by kernel_rfl
 i9:=by kernel_rfl
 i20:=by kernel_rfl
 i37:=by kernel_rfl
 i46:=by kernel_rfl
 i51:=by kernel_rfl
 i53:=by kernel_rfl
 i171:=by kernel_rfl
 i173:=by kernel_rfl
 i212:=by kernel_rfl
 i232:=by kernel_rfl
 i233:=by kernel_rfl
 m17:=by kernel_rfl
 m18:=by kernel_rfl
 m19:=by kernel_rfl }
end Go.Proofs
namespace Go.Proofs.YtijkaknggdaajaaGreatDoor
open Go.RowKit
theorem grown_of_below {w w':World} (h:Below w.heap.size w w'):w.grownBy w' none:=⟨h.os,h.tape,h.output,h.size,fun k hk _=>h.block k hk⟩
theorem grown_grow (w:World) (k:Nat) (os:Array Obj):w.grownBy (Sort.grow (w.drewN k) os) none :=
 ⟨rfl,rfl,rfl,by simp[Sort.grow],fun j hj _=>by
  show (w.heap++os)[j]?=w.heap[j]?
  rw[Array.getElem?_append_left hj]⟩
theorem var_grown {w w':World} {name:String} {cs:Array Value} (h:w.var? Tryz.prog name=some cs) (hg:w.grownBy w' none):w'.var? Tryz.prog name=some cs:=by
 unfold World.var? at h ⊢
 cases hn:Tryz.prog.globalNamed name with
 |none=>rw[hn] at h;cases h
 |some g =>
  rw[hn] at h
  simp only[Option.bind_some] at h ⊢
  rcases Nat.lt_or_ge g w.heap.size with hl|hl
  ·rw[hg.block g hl (by simp)];exact h
  ·rw[Array.getElem?_eq_none hl] at h;cases h
theorem decDigits_dig:∀ u:Nat,u<100000000000000000000→(Lib.decDigits u).map (·.toNat)=Wh.dig u:=fun u hu=>by
 refine Wh.dig_ind (P:=fun u=>(Lib.decDigits u).map (·.toNat)=Wh.dig u) (fun n hn=>?_) (fun n h10 hn ih=>?_) u hu
 ·rw[Lib.decDigits_one hn,Wh.dig_small hn]
  simp
  omega
 ·rw[Lib.decDigits,dif_neg (by omega),List.map_append,ih,Wh.dig_step h10 hn]
  simp
  omega
theorem itoa_text (u:Nat) (hu:u<100000000000000000000):(⟨(Lib.itoa (u:Int)).toArray⟩:ByteArray)=strOf (Wh.dig u):=by
 apply strL_inj
 rw[strL_strOf (fun x hx=>by
  have:=List.all_eq_true.1 (Wh.dig_fig u hu) x hx
  simp[Wh.fig] at this
  omega)]
 rw[strL,Lib.itoa,if_neg (by omega),Int.toNat_natCast]
 exact decDigits_dig u hu
end Go.Proofs.YtijkaknggdaajaaGreatDoor
