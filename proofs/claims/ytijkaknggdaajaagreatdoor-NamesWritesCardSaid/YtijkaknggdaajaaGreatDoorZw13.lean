import Derived.Test.YtijkaknggdaajaaGreatDoorZw08
import Derived.Lay
import Derived.Stop.LaidErr
import Derived.LaidMore
import Derived.Lib.SmallJoins
set_option linter.unusedVariables false
set_option linter.unusedSimpArgs false
namespace Go.Proofs.YtijkaknggdaajaaGreatDoor
open Go.Proofs.Tryz
open Go.ChangeShapes Go.WideShapes Go.ChangeAt Go.RowKit
theorem own2:ownKnob prog.godebug=none:=by kernel_rfl
theorem zGR:laidOutB prog=true:=by kernel_rfl
theorem cEs:prog.cellsOf 284=1:=by kernel_rfl
theorem cStr:prog.cellsOf 9=1:=by kernel_rfl
theorem zKO : "*" ++ "errors.errorString"="*errors.errorString":=by decide
theorem zMb (u:TypeId) (h:prog.typeName? 3 u=some "*errors.errorString"):u=282 :=
 typeName_ptr_named (nm:="errors.errorString") (by rw[zKO];kernel_rfl) (by kernel_rfl) (by decide) u (by rw[zKO];exact h)
theorem zL5 {W:World} {n:String} {g:Nat} {cs:Array Value} (hg:prog.globalNamed n=some g) (h:W.var? prog n=some cs):g<W.heap.size:=by
 unfold World.var? at h;rw[hg]at h;simp only[Option.bind_some]at h;rcases Nat.lt_or_ge g W.heap.size with h'|h'
 ·exact h'
 ·simp[Array.getElem?_eq_none h']at h
theorem zJB {W:World} {a:Addr} {v:Value} (h:W.cell? a=some v):a.block<W.heap.size:=by
 rcases Nat.lt_or_ge a.block W.heap.size with h1|h1
 ·exact h1
 ·unfold World.cell? at h;simp[Array.getElem?_eq_none h1]at h
theorem cInt:prog.cellsOf 3=1:=by kernel_rfl
theorem zLO {H:Type} {enc:TypeId×Value->H} {W:World} {base:Nat} {sp:Nat->Bool} {held:Bool} {v:Value} {d:DataW H} {p:List MemPlace} (h:DataW.Trod enc prog W base sp held 51 v d p)
  (hok:∃ a l c,v=.slice a l c):∃ l,Ints W v l/\l.length<=maxLen/\∀ z∈l,-9223372036854775808<=z/\z<=9223372036854775807:=by
 obtain⟨a0,len,cap,rfl⟩:=hok;obtain⟨fuel,hf⟩:=h;rcases open_ints underlying51 underlying3 cInt hf with⟨hcs,hx⟩|⟨a,len',cap',zs,hcs,_,hl,hm,hz,hx,hcell,hwz⟩
 ·simp[Value.cells]at hcs;obtain⟨rfl,rfl,rfl⟩:=hcs;exact⟨[],⟨none,0,0,0,rfl,Nat.le_refl _,fun h=>absurd h (Nat.lt_irrefl _),fun j hj=>absurd hj (Nat.not_lt_zero _)⟩,by unfold maxLen;simp,by simp⟩
 ·simp[Value.cells]at hcs;obtain⟨rfl,rfl,rfl⟩:=hcs;have hzl:len<=zs.length:=by rw[hz];split <;> omega
  have hzl2:zs.length<=maxLen:=by rw[hz];split <;> omega
  have hll:(zs.take len).length=len:=by rw[List.length_take];omega
  refine⟨zs.take len,?_,by rw[hll];omega,fun z hz2=>?_⟩
  ·rcases Nat.eq_zero_or_pos len with h0|h0
   ·subst h0;exact⟨some a,0,0,cap,by rw[hll],by rw[hll];exact hl,fun h=>by rw[hll]at h;omega,fun j hj=>by rw[hll]at hj;omega⟩
   ·obtain⟨b,off,rfl,hc⟩:=ints_at hcell (by omega);refine⟨_,b,off,cap,by rw[hll],by rw[hll];exact hl,fun _=>⟨rfl,zJB (hc 0 (by omega))⟩,fun j hj=>?_⟩;rw[hll]at hj;rw[hc j (by omega)];simp[List.getD_eq_getElem?_getD,hj]
  ·have:=hwz z (List.mem_of_mem_take hz2);have:=bounds_i64 this;omega
end Go.Proofs.YtijkaknggdaajaaGreatDoor
