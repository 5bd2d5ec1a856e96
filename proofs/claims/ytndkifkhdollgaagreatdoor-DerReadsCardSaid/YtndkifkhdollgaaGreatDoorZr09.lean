import Derived.Test.YtndkifkhdollgaaGreatDoorZr02
import Derived.Shelf.Unicode.ValidAny
import Derived.Shelf.SlSortCmp.Whole1
import Derived.Shelf.SlSortCmp.NoneTotal
import Derived.Shelf.SlCmpFuncs.IsSortedFunc
import Derived.Shelf.SlicesE.Clone
import Derived.Shelf.Spec.SlicesGrow
import Derived.Test.YtndkifkhdollgaaGreatDoorProg
import Derived.Laws.IdiomCopy
set_option linter.unusedVariables false
set_option linter.unusedSimpArgs false
namespace Go.Proofs
open Go.Shelf
def Tryz.lays196_ren:Go.Shelf.Ren:=⟨fun|196=>211|259=>233|n=>n,fun|9=>9|4=>4|3=>3|5=>5|12=>12|119=>271|0=>0|46=>223|139=>274|138=>273|53=>224|n=>n,fun|3=>30|4=>31|n=>n⟩
theorem Tryz.lays196:Go.Proofs.Lays.n196 Tryz.prog Tryz.lays196_ren:={
 mixed:=by kernel_rfl
 f196:=Tryz.func211.trans (congrArg some (by kernel_rfl))
 f259:=Tryz.func233.trans (congrArg some (by kernel_rfl))
 t0:=Tryz.underlying0
 a0:=Tryz.isAgg0
 z0:=Tryz.sizeOf0
 v0:=Tryz.zeroValue0
 t3:=Tryz.underlying3
 a3:=Tryz.isAgg3
 z3:=Tryz.sizeOf3
 v3:=Tryz.zeroValue3
 t4:=Tryz.underlying4
 a4:=Tryz.isAgg4
 z4:=Tryz.sizeOf4
 v4:=Tryz.zeroValue4
 t5:=Tryz.underlying5
 a5:=Tryz.isAgg5
 z5:=Tryz.sizeOf5
 v5:=Tryz.zeroValue5
 t9:=Tryz.underlying9
 a9:=Tryz.isAgg9
 z9:=Tryz.sizeOf9
 v9:=Tryz.zeroValue9
 t12:=Tryz.underlying12
 a12:=Tryz.isAgg12
 z12:=Tryz.sizeOf12
 v12:=Tryz.zeroValue12
 t46:=Tryz.underlying223
 a46:=Tryz.isAgg223
 z46:=Tryz.sizeOf223
 v46:=Tryz.zeroValue223
 t53:=Tryz.underlying224
 a53:=Tryz.isAgg224
 z53:=Tryz.sizeOf224
 v53:=Tryz.zeroValue224
 t119:=Tryz.underlying271
 a119:=Tryz.isAgg271
 z119:=Tryz.sizeOf271
 t138:=Tryz.underlying273
 a138:=Tryz.isAgg273
 z138:=Tryz.sizeOf273
 v138:=Tryz.zeroValue273
 t139:=Tryz.underlying274
 a139:=Tryz.isAgg274
 z139:=Tryz.sizeOf274
 v139:=Tryz.zeroValue274
 g3:=by kernel_rfl
 g4:=by kernel_rfl }
def Tryz.laysSort_ren:Go.Shelf.Ren:=⟨fun|6=>183|15=>181|14=>208|28=>206|29=>207|20=>225|21=>226|22=>227|23=>228|24=>229|25=>230|26=>231|27=>232|46=>241|47=>242|48=>243|49=>244|50=>245|57=>253|n=>n,fun|22=>37|24=>22|25=>236|3=>3|39=>223|0=>0|53=>248|55=>224|4=>4|46=>265|45=>264|50=>229|5=>5|9=>9|66=>278|70=>282|76=>289|77=>102|n=>n,fun|n=>n⟩
theorem Tryz.laysSort:Go.Proofs.SlLaysF.n6 Tryz.prog Tryz.laysSort_ren:={
 mixed:=by kernel_rfl
 f6:=⟨Tryz.f183.name,by decide,Tryz.func183.trans (congrArg some (by kernel_rfl))⟩
 f14:=⟨Tryz.f208.name,by decide,Tryz.func208.trans (congrArg some (by kernel_rfl))⟩
 f15:=Tryz.func181.trans (congrArg some (by kernel_rfl))
 f20:=⟨Tryz.f225.name,by decide,Tryz.func225.trans (congrArg some (by kernel_rfl))⟩
 f21:=⟨Tryz.f226.name,by decide,Tryz.func226.trans (congrArg some (by kernel_rfl))⟩
 f22:=⟨Tryz.f227.name,by decide,Tryz.func227.trans (congrArg some (by kernel_rfl))⟩
 f23:=⟨Tryz.f228.name,by decide,Tryz.func228.trans (congrArg some (by kernel_rfl))⟩
 f24:=⟨Tryz.f229.name,by decide,Tryz.func229.trans (congrArg some (by kernel_rfl))⟩
 f25:=⟨Tryz.f230.name,by decide,Tryz.func230.trans (congrArg some (by kernel_rfl))⟩
 f26:=⟨Tryz.f231.name,by decide,Tryz.func231.trans (congrArg some (by kernel_rfl))⟩
 f27:=⟨Tryz.f232.name,by decide,Tryz.func232.trans (congrArg some (by kernel_rfl))⟩
 f28:=Tryz.func206.trans (congrArg some (by kernel_rfl))
 f29:=Tryz.func207.trans (congrArg some (by kernel_rfl))
 f46:=⟨Tryz.f241.name,by decide,Tryz.func241.trans (congrArg some (by kernel_rfl))⟩
 f47:=Tryz.func242.trans (congrArg some (by kernel_rfl))
 f48:=Tryz.func243.trans (congrArg some (by kernel_rfl))
 f49:=⟨Tryz.f244.name,by decide,Tryz.func244.trans (congrArg some (by kernel_rfl))⟩
 f50:=⟨Tryz.f245.name,by decide,Tryz.func245.trans (congrArg some (by kernel_rfl))⟩
 f57:=⟨Tryz.f253.name,by decide,Tryz.func253.trans (congrArg some (by kernel_rfl))⟩
 t0:=Tryz.underlying0
 a0:=Tryz.isAgg0
 z0:=Tryz.sizeOf0
 v0:=Tryz.zeroValue0
 t3:=Tryz.underlying3
 a3:=Tryz.isAgg3
 z3:=Tryz.sizeOf3
 v3:=Tryz.zeroValue3
 t4:=Tryz.underlying4
 a4:=Tryz.isAgg4
 z4:=Tryz.sizeOf4
 v4:=Tryz.zeroValue4
 t5:=Tryz.underlying5
 a5:=Tryz.isAgg5
 z5:=Tryz.sizeOf5
 v5:=Tryz.zeroValue5
 t9:=Tryz.underlying9
 a9:=Tryz.isAgg9
 z9:=Tryz.sizeOf9
 v9:=Tryz.zeroValue9
 t22:=Tryz.underlying37
 a22:=Tryz.isAgg37
 z22:=Tryz.sizeOf37
 v22:=Tryz.zeroValue37
 a24:=Tryz.isAgg22
 z24:=Tryz.sizeOf22
 t25:=Tryz.underlying236
 a25:=Tryz.isAgg236
 z25:=Tryz.sizeOf236
 v25:=Tryz.zeroValue236
 t39:=Tryz.underlying223
 a39:=Tryz.isAgg223
 z39:=Tryz.sizeOf223
 v39:=Tryz.zeroValue223
 t45:=Tryz.underlying264
 a45:=Tryz.isAgg264
 z45:=Tryz.sizeOf264
 v45:=Tryz.zeroValue264
 t46:=Tryz.underlying265
 a46:=Tryz.isAgg265
 z46:=Tryz.sizeOf265
 v46:=Tryz.zeroValue265
 t50:=Tryz.underlying229
 a50:=Tryz.isAgg229
 z50:=Tryz.sizeOf229
 v50:=Tryz.zeroValue229
 t53:=Tryz.underlying248
 a53:=Tryz.isAgg248
 z53:=Tryz.sizeOf248
 v53:=Tryz.zeroValue248
 t55:=Tryz.underlying224
 a55:=Tryz.isAgg224
 z55:=Tryz.sizeOf224
 v55:=Tryz.zeroValue224
 t66:=Tryz.underlying278
 a66:=Tryz.isAgg278
 z66:=Tryz.sizeOf278
 v66:=Tryz.zeroValue278
 t70:=Tryz.underlying282
 a70:=Tryz.isAgg282
 z70:=Tryz.sizeOf282
 v70:=Tryz.zeroValue282
 t76:=Tryz.underlying289
 a76:=Tryz.isAgg289
 z76:=Tryz.sizeOf289
 v76:=Tryz.zeroValue289
 t77:=Tryz.underlying102
 a77:=Tryz.isAgg102
 z77:=Tryz.sizeOf102
 v77:=Tryz.zeroValue102 }
def Tryz.laysGrow_ren:Go.Shelf.Ren:=⟨fun|4=>185|n=>n,fun|22=>22|25=>5|3=>3|4=>4|9=>9|20=>20|0=>0|n=>n,fun|n=>n⟩
theorem Tryz.laysGrow:Go.Proofs.Lays8.n4 Tryz.prog Tryz.laysGrow_ren:={
 mixed:=by kernel_rfl
 f4:=⟨Tryz.f185.name,by decide,Tryz.func185.trans (congrArg some (by kernel_rfl))⟩
 t0:=Tryz.underlying0
 a0:=Tryz.isAgg0
 z0:=Tryz.sizeOf0
 v0:=Tryz.zeroValue0
 t3:=Tryz.underlying3
 a3:=Tryz.isAgg3
 z3:=Tryz.sizeOf3
 v3:=Tryz.zeroValue3
 t4:=Tryz.underlying4
 a4:=Tryz.isAgg4
 z4:=Tryz.sizeOf4
 v4:=Tryz.zeroValue4
 t9:=Tryz.underlying9
 a9:=Tryz.isAgg9
 z9:=Tryz.sizeOf9
 v9:=Tryz.zeroValue9
 t20:=Tryz.underlying20
 a20:=Tryz.isAgg20
 z20:=Tryz.sizeOf20
 v20:=Tryz.zeroValue20
 t22:=Tryz.underlying22
 a22:=Tryz.isAgg22
 z22:=Tryz.sizeOf22
 v22:=Tryz.zeroValue22 }
end Go.Proofs
namespace Go.Proofs.YtndkifkhdollgaaGreatDoor
open Go.RowKit
theorem bytesV_mem' (ws:List Nat):∀ v∈(bytesV ws).toList,v.oneCell'=true:=by
 intro v hv
 simp only[bytesV,List.mem_map] at hv
 obtain ⟨x,_,rfl⟩:=hv
 rfl
section
variable {P:Program}
theorem copy_bytes' {w:World} {dT sT ty e:TypeId} (hu:P.underlying dT=some (.slice e)) (hs:(P.info? e).map (·.size)=some 1)
  {b N:Nat} {Z l:List Nat} {t:TypeId} {v:Value} (hb:w.heap[b]?=some (.cells (bytesV Z) t (0,0))) (hZ:Z.length=N) (hB:Bytes w v l) (hl:l.length≤N) :
  ∃ w',(Builtin.copy_ #[dT,sT] ty #[.slice (some ⟨b,0,none⟩) N N,v]).run P w=.ok (goInt l.length) w'∧w'.heap[b]?=some (.cells (bytesV (l++Z.drop l.length)) t (0,0))∧w.grownBy w' (some b):=by
 obtain ⟨h1,a,sb,so,c,rfl,hc,ha,hcell⟩:=hB
 rcases Nat.eq_zero_or_pos l.length with h0|h0
 ·obtain rfl:=List.eq_nil_of_length_eq_zero h0
  exact ⟨w,run_copy_none (P:=P) w dT sT ty e (some ⟨b,0,none⟩) a N N 0 c hu hs (Nat.zero_min _),by simpa using hb,grown_refl _ _⟩
 ·obtain ⟨rfl,hsb⟩:=ha h0
  have hr:=run_copy_cells (P:=P) w dT sT ty e b 0 N N ⟨sb,so,none⟩ l.length c (bytesV l).toList hu hs (by rw[Array.length_toList,bytesV_size];exact (Nat.min_eq_left hl).symm)
   (fun j u hj=>by
    have hjl:j<l.length:=by have:=(List.getElem?_eq_some_iff.1 hj).1;simpa [bytesV_size] using this
    rw[addr_addO,hcell j hjl,←bytesV_at l j hjl,←hj]
    simp)
   (fun j hj=>by
    have hjl:j<l.length:=by simpa [bytesV_size] using hj
    have hz:j<(bytesV Z).size:=by rw[bytesV_size];omega
    simp[World.cell?,hb,hz])
   (fun j _=>free_blk hb _) (bytesV_mem' _)
  have e:(bytesV l).toList.length=l.length:=by rw[Array.length_toList,bytesV_size]
  have hr':=hr
  rw[show goInt (((bytesV l).toList.length:Nat):Int)=goInt (l.length:Int) by rw[e]] at hr'
  refine ⟨_,hr',?_,grown_setCells b (.inr rfl) _ _ _ (grown_refl _ _)⟩
  have:=setCells_heap (b:=b) (t:=t) (fr:=(0,0)) (bytesV l).toList [] ((bytesV Z).toList.take l.length) ((bytesV Z).toList.drop l.length) w (by simpa using hb) (by simp[bytesV];omega)
  simpa [bytesV] using this
theorem wpList_copyB' {w:World} {ops:Array Oper} {rest:List Oper} {o:Oper} {a:Act} {Q:Exit→Act→World→Prop} (hgd:o.guard=none) (s x:Operand) (t u:TypeId)
  (ho:o.op=.call { callee:=.builtin .copy,args:=#[s,x],argTypes:=#[t,u] }) {e:TypeId} (hu:P.underlying t=some (.slice e)) (hs:(P.info? e).map (·.size)=some 1)
  {b N:Nat} {Z l:List Nat} {T:TypeId} {v:Value} (hd:a.eval s=.slice (some ⟨b,0,none⟩) N N) (hx:a.eval x=v) (hb:w.heap[b]?=some (.cells (bytesV Z) T (0,0))) (hZ:Z.length=N) (hB:Bytes w v l) (hl:l.length≤N)
  (h:∀ w',w'.heap[b]?=some (.cells (bytesV (l++Z.drop l.length)) T (0,0))→w.grownBy w' (some b)→wpList P ops Q rest (a.put o.dst (goInt l.length)) w'):wpList P ops Q (o :: rest) a w:=by
 obtain ⟨w',hr,k1,k2⟩:=copy_bytes' (P:=P) (ty:=o.type) (sT:=u) hu hs hb hZ hB hl
 refine wpList_plain hgd fun K hK=>?_
 unfold Oper.wp execOp
 simp only[ho,resolve,invoke,builtin,Sem.run_bind,Sem.run_pure,Result.andThen_ok,List.map_toArray,List.map_cons,List.map_nil,hd,hx,hr]
 exact hK _ _ (h w' k1 k2)
end
end Go.Proofs.YtndkifkhdollgaaGreatDoor
