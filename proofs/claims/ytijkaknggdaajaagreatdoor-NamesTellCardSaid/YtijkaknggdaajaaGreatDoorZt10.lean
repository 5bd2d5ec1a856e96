import Derived.Test.YtijkaknggdaajaaGreatDoorZt00
import Derived.Test.YtijkaknggdaajaaGreatDoorZt02
import Derived.Test.YtijkaknggdaajaaGreatDoorZt09
import Derived.Lib.AtoiBound
set_option linter.unusedVariables false
set_option linter.unusedSimpArgs false
set_option maxRecDepth 100000
namespace Go.Proofs.YtijkaknggdaajaaGreatDoor
open Go.RowKit
theorem grown_of_below {w w':World} (h:Below w.heap.size w w'):w.grownBy w' none:=⟨h.os,h.tape,h.output,h.size,fun k hk _=>h.block k hk⟩
theorem grown_grow (w:World) (k:Nat) (os:Array Obj):w.grownBy (Sort.grow (w.drewN k) os) none :=
 ⟨rfl,rfl,rfl,by simp[Sort.grow],fun j hj _=>by
  show (w.heap++os)[j]?=w.heap[j]?
  rw[Array.getElem?_append_left hj]⟩
theorem var_grown {w w':World} {name:String} {cs:Array Value} (h:w.var? Tryz.prog name=some cs) (hg:w.grownBy w' none):w'.var? Tryz.prog name=some cs:=by
 unfold World.var? at h ⊢
 cases hn:Tryz.prog.globalNamed name with
 |none=>rw[hn] at h;cases h
 |some g =>
  rw[hn] at h
  simp only[Option.bind_some] at h ⊢
  rcases Nat.lt_or_ge g w.heap.size with hl|hl
  ·rw[hg.block g hl (by simp)];exact h
  ·rw[Array.getElem?_eq_none hl] at h;cases h
structure Figs (w:World) (tp:TypeId) (p:Value):Prop where
 tab:Lib.TabIs Tryz.prog w "internal/strconv.uint64pow10" .u64 Lib.pow10Tab
 err:w.var? Tryz.prog "strconv.ErrSyntax"=some #[.iface tp p]
theorem Figs.grown {w w':World} {tp:TypeId} {p:Value} (h:Figs w tp p) (hg:w.grownBy w' none):Figs w' tp p:=⟨var_grown h.tab hg,var_grown h.err hg⟩
theorem decDigits_dig:∀ u:Nat,u<100000000000000000000→(Lib.decDigits u).map (·.toNat)=Wh.dig u:=fun u hu=>by
 refine Wh.dig_ind (P:=fun u=>(Lib.decDigits u).map (·.toNat)=Wh.dig u) (fun n hn=>?_) (fun n h10 hn ih=>?_) u hu
 ·rw[Lib.decDigits_one hn,Wh.dig_small hn]
  simp
  omega
 ·rw[Lib.decDigits,dif_neg (by omega),List.map_append,ih,Wh.dig_step h10 hn]
  simp
  omega
theorem itoa_text (u:Nat) (hu:u<100000000000000000000):(⟨(Lib.itoa (u:Int)).toArray⟩:ByteArray)=strOf (Wh.dig u):=by
 apply strL_inj
 rw[strL_strOf (fun x hx=>by
  have:=List.all_eq_true.1 (Wh.dig_fig u hu) x hx
  simp[Wh.fig] at this
  omega)]
 rw[strL,Lib.itoa,if_neg (by omega),Int.toNat_natCast]
 exact decDigits_dig u hu
theorem digitVal_fig (b:UInt8):Lib.digitVal b=if Wh.fig b.toNat=true then some (b.toNat-48) else none:=by
 unfold Lib.digitVal Wh.fig
 simp
theorem decFrom_pval:∀ (l:List UInt8) (acc:Nat),(l.map (·.toNat)).all Wh.fig=true→Lib.decFrom acc l=some ((l.map (·.toNat)).foldl (fun a c=>a*10+(c-48)) acc)
 |[],acc,_=>rfl
 |b :: r,acc,h=>by
  simp only[List.map_cons,List.all_cons,Bool.and_eq_true] at h
  rw[Lib.decFrom,digitVal_fig,if_pos h.1]
  simp only[]
  rw[decFrom_pval r _ h.2]
  rfl
theorem atoi_figs (s:ByteArray) (h:(strL s).all Wh.fig=true) (hne:strL s≠[]):Lib.atoi s.data.toList=some ((Wh.pval (strL s):Nat):Int):=by
 unfold strL at *
 generalize s.data.toList=l at *
 match l,hne with
 |b :: r,_ =>
  have hb:Wh.fig b.toNat=true:=by simp only[List.map_cons,List.all_cons,Bool.and_eq_true] at h;exact h.1
  have hb2:48≤b.toNat:=by simp[Wh.fig] at hb;omega
  have n1:(b==45)=false:=by
   rw[beq_eq_false_iff_ne];intro e;subst e;revert hb2;decide
  have n2:(b==43)=false:=by
   rw[beq_eq_false_iff_ne];intro e;subst e;revert hb2;decide
  rw[Lib.atoi,n1,n2]
  simp only[Bool.false_eq_true,if_false]
  rw[Lib.decNat]
  simp only[List.isEmpty_cons,Bool.false_eq_true,if_false]
  rw[decFrom_pval (b :: r) 0 h]
  rfl
theorem itoa_any (u:Nat) (hu:u<9223372036854775808) (tp:TypeId) (p:Value) (w:World) (hF:Figs w tp p) :
  Calls Tryz.prog 194 #[.int .i64 u] w fun e w'=>e=.returned (.string (strOf (Wh.dig u)))∧w.grownBy w' none :=
 (Any.strconv_Itoa Tryz.laysM171 u (by omega) (by omega) w hF.tab).mono (by
  rintro e w' ⟨rfl,k,os,rfl⟩
  exact ⟨by rw[itoa_text u (by omega)],grown_grow w k os⟩)
theorem atoi_any (s:ByteArray) (n:Int) (hl:s.size≤18) (h:Lib.atoi s.data.toList=some n) (w:World) :
  Calls Tryz.prog 212 #[.string s] w fun e w'=>e=.returned (.tuple #[.int .i64 n,.nilIface])∧w.grownBy w' none :=
 (Any.strconv_Atoi Tryz.lays172 s n hl h w).mono (by
  rintro e w' ⟨rfl,t,rfl⟩
  exact ⟨rfl,grown_of_below (Lib.bytesWorld_below _ _ _)⟩)
theorem atoi_none (s:ByteArray) (hl:s.size≤18) (h:Lib.atoi s.data.toList=none) (tp:TypeId) (p:Value) (w:World) (hF:Figs w tp p) :
  Calls Tryz.prog 212 #[.string s] w fun e w'=>∃ N,e=.returned (.tuple #[.int .i64 0,.iface 270 (.pointer (some ⟨N,0,none⟩))])∧w.grownBy w' none :=
 (Any.strconv_Atoi_err_var Tryz.laysC172 s hl h tp p w hF.err).mono (by
  rintro e w' ⟨N,rfl,_,_,hb⟩
  exact ⟨N,rfl,grown_of_below hb⟩)
end Go.Proofs.YtijkaknggdaajaaGreatDoor
