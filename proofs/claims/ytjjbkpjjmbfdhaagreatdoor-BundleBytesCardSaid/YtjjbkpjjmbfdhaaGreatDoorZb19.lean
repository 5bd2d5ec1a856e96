import Derived.Test.YtjjbkpjjmbfdhaaGreatDoorZb03
import Derived.Test.YtjjbkpjjmbfdhaaGreatDoorZb11
import Derived.Test.YtjjbkpjjmbfdhaaGreatDoorZb12
import Derived.Test.YtjjbkpjjmbfdhaaGreatDoorZb13
import Derived.Test.YtjjbkpjjmbfdhaaGreatDoorRows
import Derived.ProofKit
import Derived.OpenShut
import Derived.Lay
import Derived.Stop.LaidErr
import Derived.Below
import Derived.Carry
import Derived.LaidMore
import Derived.Lib.SmallJoins
set_option linter.unusedVariables false
set_option linter.unusedSimpArgs false
set_option maxRecDepth 100000
set_option maxHeartbeats 400000
namespace Go.Proofs.YtjjbkpjjmbfdhaaGreatDoor
open Lib (hid)
open Go.RowKit
theorem retB {a b:Bool} (h:a=b):Ending.returned (.bool a)=.returned (.bool b):=by rw[h]
theorem i8_wrap (x:Nat) (hx:x<256):IntKind.i8.wrap (x:Int)=if 127<x then (x:Int)-256 else x:=by
 simp only[IntKind.wrap,IntKind.bits,IntKind.signed]
 simp
 split <;> omega
theorem needless_i8 (x y:Nat) (r:List Nat) (hx:x<256) (hy:y<256):(IntKind.i8.wrap (x:Int)==IntKind.i8.wrap (y:Int)/128)=Wh.needless (x :: y :: r):=by
 rw[i8_wrap x hx,i8_wrap y hy,Wh.needless,Bool.eq_iff_iff]
 simp only[beq_iff_eq,Bool.or_eq_true,Bool.and_eq_true,decide_eq_true_eq]
 split <;> split <;> omega
theorem needless_any (v:Value) (l:List Nat) (w:World) (hB:Bytes w v l) :
  Calls Tryz.prog 177 #[v] w fun e w'=>e=.returned (.bool (Wh.needless l))∧w.grownBy w' none:=by
 obtain ⟨hlt,a,sb,so,c,rfl,hc,ha,hcell⟩:=hB
 match l,hlt,hc,ha,hcell with
 |[],hlt,hc,ha,hcell =>
  clear hlt ha hcell
  go_enter Tryz.func177,Tryz.ntmps177
  go_wp2
  go_quiet (fail)
  go_wp2
  go_ret
  exact ⟨rfl,grown_drewN (grown_refl _ _) _⟩
 |[x],hlt,hc,ha,hcell =>
  clear hlt ha hcell
  go_enter Tryz.func177,Tryz.ntmps177
  go_wp2
  go_quiet (fail)
  go_wp2
  go_ret
  exact ⟨rfl,grown_drewN (grown_refl _ _) _⟩
 |x :: y :: r,hlt,hc,ha,hcell =>
  obtain ⟨rfl,ha2⟩:=ha (by simp)
  have c0:w.cell? ⟨sb,so,none⟩=some (.int .u8 (x:Nat)):=hcell 0 (by simp)
  have c1:w.cell? ⟨sb,so+1,none⟩=some (.int .u8 (y:Nat)):=hcell 1 (by simp)
  have hx:=hlt x (by simp)
  have hy:=hlt y (by simp)
  obtain ⟨N,hN⟩:∃ N,N=Wh.needless (x :: y :: r):=⟨_,rfl⟩
  rw[←hN]
  have HN:=hid hN
  obtain ⟨n,hn⟩:∃ n,n=(x :: y :: r).length:=⟨_,rfl⟩
  have hn2:1<n:=by rw[hn];simp
  rw[←hn] at hc ⊢
  have hd:decide ((1:Int)<n)=true:=decide_eq_true (by omega)
  clear hlt ha hcell hN hn
  go_enter Tryz.func177,Tryz.ntmps177
  go_wp2
  go_quiet (fail)
  go_wp2
  go_ret
  exact ⟨retB (by rw[HN.out];exact needless_i8 x y r hx hy),grown_drewN (grown_refl _ _) _⟩
namespace Wh
theorem val_snoc (c:Nat) (l:List Nat) (hl:l≠[]):val (l++[c])=val l*256+c:=by
 match l,hl with
 |x :: r,_ =>
  have hn:=num_snoc c (x :: r)
  rw[List.cons_append] at hn ⊢
  rw[val,val,hn,List.length_append,List.length_singleton,Nat.pow_succ]
  generalize num (x :: r)=p
  rw[Nat.pow_succ 256 r.length]
  generalize 256 ^ r.length=q
  split <;> omega
end Wh
def GtPost (A:Nat→Addr) (l:List Nat) (e:Ending):Prop :=
 match Wh.get l with
 |.ok n=>e=.returned (.tuple #[.int .i64 n,.nilIface])
 |.error k=>e=.returned (.tuple #[.int .i64 0,errV A k])
theorem take_one' (l:List Nat) (k:Nat) (h:k<l.length):l.take (k+1)=l.take k++[l.getD k 0]:=by
 have e:l.getD k 0=l[k]:=by rw[List.getD_eq_getElem?_getD,List.getElem?_eq_getElem h];rfl
 rw[List.take_add_one,List.getElem?_eq_getElem h,e]
 rfl
theorem val_small (x:Nat) (r:List Nat) (h:∀ z∈x :: r,z<256) (hl:r.length<7) : -(128*72057594037927936:Int)/256≤Wh.val (x :: r)∧Wh.val (x :: r)<(128*72057594037927936:Int)/256:=by
 have h1:=Wh.val_lo h
 have hp:256 ^ r.length≤256 ^ 6:=Nat.pow_le_pow_right (by decide) (by omega)
 have c1:((256:Int) ^ r.length)=((256 ^ r.length:Nat):Int):=by simp
 rw[show (256 ^ 6:Nat)=281474976710656 by decide] at hp
 rw[c1] at h1
 generalize 256 ^ r.length=p at *
 omega
theorem or_low (n:Int) (c:Nat) (hc:c<256) (h1 : -36028797018963968≤n) (h2:n<36028797018963968):bits .or .i64 (n*256) (c:Int)=n*256+c:=by
 show IntKind.i64.wrap ((BitVec.ofInt 64 (n*256) ||| BitVec.ofInt 64 (c:Int)).toNat:Int)=_
 obtain ⟨v,hv⟩:∃ v:Nat,(v:Int)=n%72057594037927936:=⟨(n%72057594037927936).toNat,by omega⟩
 have e1:(BitVec.ofInt 64 (n*256)).toNat=256*v:=by
  rw[BitVec.toNat_ofInt]
  simp only[Nat.reducePow,Int.cast_ofNat_Int]
  omega
 have e2:(BitVec.ofInt 64 (c:Int)).toNat=c:=by
  rw[BitVec.ofInt_natCast,BitVec.toNat_ofNat]
  exact Nat.mod_eq_of_lt (by omega)
 have e3:256*v ||| c=256*v+c:=(Nat.two_pow_add_eq_or_of_lt (i:=8) (b:=c) (by omega) v).symm
 rw[BitVec.toNat_or,e1,e2,e3]
 simp only[IntKind.wrap,IntKind.bits,IntKind.signed]
 simp
 omega
theorem getLoop (p:Nat→Int) (q:Nat→Nat) (m x sb so c:Nat) (a1:Option Addr) (sb1 so1 cc1:Nat) (w:World)
  (hN:Calls Tryz.prog 177 #[.slice (some ⟨sb,so,none⟩) (m+1) c] w fun e w'=>e=.returned (.bool false)∧w.grownBy w' none)
  (hx:x<256) (c0:w.cell? ⟨sb,so,none⟩=some (.int .u8 (x:Nat))) (hsb:sb<w.heap.size) (hm:m≤7) (hc:m+1≤c)
  (hv0:p 0=IntKind.i8.wrap (x:Int)) (hV:∀ j,j<m→p (j+1)=p j*256+(q j:Nat)∧q j<256)
  (hR:∀ j,j≤m→j<7→-(128*72057594037927936:Int)/256≤p j∧p j<(128*72057594037927936:Int)/256)
  (he:Value.slice (subA (some ⟨sb,so,none⟩) 1 c) m (c-1)=.slice a1 m cc1) (ha:0<m→a1=some ⟨sb1,so1,none⟩)
  (hcell:∀ j,j<m→w.cell? ⟨sb1,so1+j,none⟩=some (.int .u8 (q j:Nat))) :
  Calls Tryz.prog 147 #[.slice (some ⟨sb,so,none⟩) (m+1) c] w fun e w'=>e=.returned (.tuple #[.int .i64 (p m),.nilIface])∧w.grownBy w' none:=by
 have HN:=hid hN
 have HC:=hid (fun (w':World) (hg:w.grownBy w' none)=>by
  have:=c0
  rw[←World.cell?_of_block (hg.block _ hsb (by simp))] at this
  exact this)
 have h8i:(IntKind.i8.wrap (x:Int))=if 127<x then (x:Int)-256 else x:=i8_wrap x hx
 have hw1:IntKind.i64.wrap (IntKind.i8.wrap (x:Int))=p 0:=by
  rw[hv0,h8i]
  simp only[IntKind.wrap,IntKind.bits,IntKind.signed]
  simp
  split <;> omega
 rcases Nat.eq_zero_or_pos m with rfl|hpos
 ·clear h8i hV hR he ha hcell hN hv0
  go_enter Tryz.func147,Tryz.ntmps147
  go_wp2_with (go_at_call 177;refine HN.out.mono ?_;rintro e w' ⟨rfl,hg⟩;have HG:=hid hg;have c0':=HC.out w' hg;clear hg)
  obtain ⟨wo,hwo⟩:∃ wo:World,wo=w':=⟨_,rfl⟩
  have HWo:=hid hwo
  clear hwo
  go_loopw [4,26] (fun n i wr=>n=.int .i64 (p 0)∧i=.int .i64 0∧wr=wo) (fun _ i _=>1)
  case atStart=>exact ⟨rfl,rfl,HWo.out.symm⟩
  case round =>
   obtain ⟨rfl,rfl,rfl⟩:=hrel
   go_wp2
   go_ret2
   exact ⟨rfl,by rw[HWo.out];exact HG.out⟩
 ·have hsub:subA (some ⟨sb,so,none⟩) 1 c=some ⟨sb1,so1,none⟩:=by
   rw[←ha hpos]
   simp only[Value.slice.injEq] at he
   exact he.1
  have hsb1:sb1=sb:=by
   rw[subA,if_neg (by omega),Option.map_some,addr_addO] at hsub
   simp only[Option.some.injEq,Addr.mk.injEq] at hsub
   exact hsub.1.symm
  have HV:=hid hV
  have HR:=hid hR
  have HCe:=hid (fun (w':World) (hg:w.grownBy w' none) (j:Nat) (hj:j<m)=>by
   have:=hcell j hj
   rw[←World.cell?_of_block (hg.block _ (show (⟨sb1,so1+j,none⟩:Addr).block<_ by rw[hsb1];exact hsb) (by simp))] at this
   exact this)
  clear h8i hV hR he ha hcell hN hv0 hsb1
  go_enter Tryz.func147,Tryz.ntmps147
  go_wp2_with (go_at_call 177;refine HN.out.mono ?_;rintro e w' ⟨rfl,hg⟩;have HG:=hid hg;have c0':=HC.out w' hg;clear hg)
  obtain ⟨wo,hwo⟩:∃ wo:World,wo=w':=⟨_,rfl⟩
  have HWo:=hid hwo
  clear hwo
  go_loopw [4,26] (fun n i wr=>∃ k:Nat,k≤m∧n=.int .i64 (p k)∧i=.int .i64 k∧wr=wo) (fun _ i _=>m-(intOf i).toNat)
  case atStart=>exact ⟨0,by omega,rfl,rfl,HWo.out.symm⟩
  case round =>
   obtain ⟨k,hk,rfl,rfl,rfl⟩:=hrel
   by_cases hkm:k<m
   ·have hv:=HV.out k hkm
    have hr:=HR.out k hk (by omega)
    have hc1:=HCe.out _ HG.out k hkm
    rw[←HWo.out] at hc1
    obtain ⟨hv1,hv2⟩:=hv
    have HV1:=hid hv1
    generalize p k=P at *
    generalize q k=y at *
    have hor:=or_low P y hv2 (by omega) (by omega)
    clear hv1
    go_wp2
    go_roundw
    case rel=>exact ⟨k+1,by omega,by rw[HV1.out],by go_num,trivial⟩
    case measure=>simp[intOf];omega
   ·obtain rfl:k=m:=by omega
    go_wp2
    go_ret2
    exact ⟨rfl,by rw[HWo.out];exact HG.out⟩
theorem get_any (A:Nat→Addr) (v:Value) (l:List Nat) (w:World) (hB:Bytes w v l) (hE:AllErrs w A) :
  Calls Tryz.prog 147 #[v] w fun e w'=>GtPost A l e∧w.grownBy w' none:=by
 have HN:=hid (needless_any v l w hB)
 have HE:=hid hE
 have eS:=err_short hE
 have HB:=hid hB
 have HES:Hid (∀ W,w.grownBy W none→W.cell? ⟨0,0,none⟩=some (errV A 4)∧W.cell? ⟨1,0,none⟩=some (errV A 1)):=hid (fun W hW=>⟨err_form (hE.grown hW),err_range (hE.grown hW)⟩)
 clear hE
 obtain ⟨hlt,a,sb,so,c,rfl,hc,ha,hcell⟩:=hB
 match l,HN,HB,hlt,hc,ha,hcell with
 |[],HN,HB,hlt,hc,ha,hcell =>
  clear hlt ha hcell
  have HX:Hid (∀ e,e=Ending.returned (.tuple #[.int .i64 0,errV A 2])→GtPost A [] e):=hid (fun e h=>by unfold GtPost;rw[show Wh.get []=.error 2 from rfl];exact h)
  go_enter Tryz.func147,Tryz.ntmps147
  go_wp2
  go_quiet (fail)
  go_wp2
  go_ret2
  exact ⟨HX.out _ rfl,grown_drewN (grown_refl _ _) _⟩
 |x :: r,HN,HB,hlt,hc,ha,hcell =>
  obtain ⟨rfl,ha2⟩:=ha (by simp)
  have c0:w.cell? ⟨sb,so,none⟩=some (.int .u8 (x:Nat)):=hcell 0 (by simp)
  have hx:=hlt x (by simp)
  by_cases hneed:Wh.needless (x :: r)=true
  ·have HX:Hid (∀ e,e=Ending.returned (.tuple #[.int .i64 0,errV A 4])→GtPost A (x :: r) e):=hid (fun e h=>by unfold GtPost;rw[Wh.get,if_neg (by simp),if_pos hneed];exact h)
   rw[hneed] at HN
   obtain ⟨n,hn⟩:∃ n,n=(x :: r).length:=⟨_,rfl⟩
   have hn2:0<n:=by rw[hn];simp
   rw[←hn] at hc HN ⊢
   clear hlt ha hcell hn c0 hneed
   go_enter Tryz.func147,Tryz.ntmps147
   go_wp2_with (go_at_call 177;refine HN.out.mono ?_;rintro e w' ⟨rfl,hg⟩;have HG:=hid hg;have eF:=(HES.out _ hg).1;clear hg)
   go_quiet (fail)
   go_wp2
   go_ret2
   exact ⟨HX.out _ rfl,grown_drewN HG.out _⟩
  ·rw[Bool.not_eq_true] at hneed
   rw[hneed] at HN
   by_cases h8:8<(x :: r).length
   ·have HX:Hid (∀ e,e=Ending.returned (.tuple #[.int .i64 0,errV A 1])→GtPost A (x :: r) e):=hid (fun e h=>by unfold GtPost;rw[Wh.get,if_neg (by simp),if_neg (by rw[hneed];simp),if_pos h8];exact h)
    obtain ⟨n,hn⟩:∃ n,n=(x :: r).length:=⟨_,rfl⟩
    rw[←hn] at hc HN h8 ⊢
    clear hlt ha hcell hn c0 hneed
    go_enter Tryz.func147,Tryz.ntmps147
    go_wp2_with (go_at_call 177;refine HN.out.mono ?_;rintro e w' ⟨rfl,hg⟩;have HG:=hid hg;have eR:=(HES.out _ hg).2;clear hg)
    go_quiet (fail)
    go_wp2
    go_ret2
    exact ⟨HX.out _ rfl,grown_drewN HG.out _⟩
   ·have HX:Hid (∀ e,e=Ending.returned (.tuple #[.int .i64 (Wh.val (x :: r)),.nilIface])→GtPost A (x :: r) e):=hid (fun e h=>by unfold GtPost;rw[Wh.get,if_neg (by simp),if_neg (by rw[hneed];simp),if_neg h8];exact h)
    have HF0:=Bytes.from HB.out 1 (by simp)
    have hv0:Wh.val [x]=IntKind.i8.wrap (x:Int):=by
     rw[i8_wrap x hx,Wh.val]
     simp[Wh.num]
    have HV:Hid (∀ j,j<r.length→Wh.val (x :: r.take (j+1))=Wh.val (x :: r.take j)*256+(r.getD j 0:Nat)∧r.getD j 0<256):=hid (fun j hj=>by
     rw[take_one' r j hj]
     exact ⟨Wh.val_snoc _ (x :: r.take j) (by simp),getD_small (fun y hy=>hlt y (by simp[hy])) j⟩)
    have HR:Hid (∀ j,j≤r.length→j<7→-(128*72057594037927936:Int)/256≤Wh.val (x :: r.take j)∧Wh.val (x :: r.take j)<(128*72057594037927936:Int)/256):=hid (fun j hj h7=>val_small x (r.take j) (fun z hz=>hlt z (by simp only[List.mem_cons] at hz ⊢;exact hz.imp id List.mem_of_mem_take)) (by rw[List.length_take];omega))
    have HVe:Hid (Wh.val (x :: r)=Wh.val (x :: r.take r.length)):=hid (by rw[List.take_length])
    obtain ⟨m,hm⟩:∃ m,m=r.length:=⟨_,rfl⟩
    have hn:(x :: r).length=m+1:=by rw[hm,List.length_cons]
    obtain ⟨_,a1,sb1,so1,cc1,he1,hc1,ha1,hcell1⟩:=HF0
    rw[hn] at hc HN h8 he1 ⊢
    rw[Nat.add_sub_cancel] at he1
    have hdl:((x :: r).drop 1).length=m:=by rw[hm];rfl
    rw[hdl] at he1
    rw[←hm] at HV HR HVe
    rw[hdl] at hc1 ha1 hcell1
    have Hc1:Hid (∀ j,j<m→w.cell? ⟨sb1,so1+j,none⟩=some (.int .u8 (r.getD j 0:Nat))):=hid hcell1
    have HNf:=hid (HN.out)
    have:=getLoop (fun j=>Wh.val (x :: r.take j)) (fun j=>r.getD j 0) m x sb so c a1 sb1 so1 cc1 w HN.out hx c0 ha2 (by omega) (by omega) hv0 HV.out HR.out he1 (fun h=>(ha1 h).1) Hc1.out
    exact this.mono (by rintro e w' ⟨rfl,hg⟩;exact ⟨HX.out _ (by rw[HVe.out]),hg⟩)
def rangeOf (l:List Nat) (least most:Int):Int×Nat :=
 match Wh.get l with
 |.error k=>(0,k)
 |.ok n=>if n<least∨most<n then (0,1) else (n,0)
theorem range_any (A:Nat→Addr) (v:Value) (l:List Nat) (least most:Int) (w:World) (hB:Bytes w v l) (hE:AllErrs w A) :
  Calls Tryz.prog 117 #[v,.int .i64 least,.int .i64 most] w fun e w'=>e=.returned (.tuple #[.int .i64 (rangeOf l least most).1,errOf A (rangeOf l least most).2])∧w.grownBy w' none:=by
 have hG:=get_any A v l w hB hE
 have HE:=hid (fun W hW=>err_range (hE.grown (w':=W) hW))
 obtain ⟨_,va,vb,vo,vc,rfl,_⟩:=hB
 unfold GtPost at hG
 unfold rangeOf
 generalize l.length=n at *
 clear hE
 cases hg:Wh.get l with
 |error k =>
  have hk:k≠0:=by
   intro h
   subst h
   rw[Wh.get] at hg
   split at hg
   ·cases hg
   ·split at hg
    ·cases hg
    ·split at hg <;> cases hg
  rw[hg] at hG
  have HGt:=hid hG
  clear hg hG
  have HEr:Hid (errOf A k=errV A k):=hid (by rw[errOf,if_neg hk])
  go_enter Tryz.func117,Tryz.ntmps117
  go_wp2_with (go_at_call 147;refine HGt.out.mono ?_;rintro e w' ⟨rfl,hg⟩;have HG:=hid hg;clear hg)
  go_ret2
  exact ⟨by rw[HEr.out];rfl,HG.out⟩
 |ok z =>
  rw[hg] at hG
  have HGt:=hid hG
  clear hg hG
  by_cases h1:z<least
  ·go_enter Tryz.func117,Tryz.ntmps117
   go_wp2_with (go_at_call 147;refine HGt.out.mono ?_;rintro e w' ⟨rfl,hg⟩;have HG:=hid hg;have eR:=HE.out _ hg;clear hg)
   go_quiet (fail)
   go_wp2
   go_ret2
   exact ⟨rfl,grown_drewN HG.out _⟩
  ·by_cases h2:most<z
   ·go_enter Tryz.func117,Tryz.ntmps117
    go_wp2_with (go_at_call 147;refine HGt.out.mono ?_;rintro e w' ⟨rfl,hg⟩;have HG:=hid hg;have eR:=HE.out _ hg;clear hg)
    go_quiet (fail)
    go_wp2
    go_ret2
    exact ⟨rfl,grown_drewN HG.out _⟩
   ·go_enter Tryz.func117,Tryz.ntmps117
    go_wp2_with (go_at_call 147;refine HGt.out.mono ?_;rintro e w' ⟨rfl,hg⟩;have HG:=hid hg;clear hg)
    go_ret2
    exact ⟨rfl,HG.out⟩
end Go.Proofs.YtjjbkpjjmbfdhaaGreatDoor
namespace Go.Proofs.YtjjbkpjjmbfdhaaGreatDoor
open Lib (hid)
open Go.ChangeShapes Go.WideShapes Go.ChangeAt Go.RowKit
theorem own2:ownKnob Tryz.prog.godebug=none:=by kernel_rfl
theorem laidOut2:laidOutB Tryz.prog=true:=by kernel_rfl
theorem cEs:Tryz.prog.cellsOf 268=1:=by kernel_rfl
theorem cStr:Tryz.prog.cellsOf 9=1:=by kernel_rfl
theorem starEs : "*" ++ "errors.errorString"="*errors.errorString":=by decide
theorem rowEs (u:TypeId) (h:Tryz.prog.typeName? 3 u=some "*errors.errorString"):u=244 :=
 typeName_ptr_named (nm:="errors.errorString") (by rw[starEs];kernel_rfl) (by kernel_rfl) (by decide) u (by rw[starEs];exact h)
theorem var_lt {W:World} {n:String} {g:Nat} {cs:Array Value} (hg:Tryz.prog.globalNamed n=some g) (h:W.var? Tryz.prog n=some cs):g<W.heap.size:=by
 unfold World.var? at h
 rw[hg] at h
 simp only[Option.bind_some] at h
 rcases Nat.lt_or_ge g W.heap.size with h'|h'
 ·exact h'
 ·simp[Array.getElem?_eq_none h'] at h
theorem cell_lt {W:World} {a:Addr} {v:Value} (h:W.cell? a=some v):a.block<W.heap.size:=by
 rcases Nat.lt_or_ge a.block W.heap.size with h1|h1
 ·exact h1
 ·unfold World.cell? at h
  simp[Array.getElem?_eq_none h1] at h
theorem cInt:Tryz.prog.cellsOf 3=1:=by kernel_rfl
end Go.Proofs.YtjjbkpjjmbfdhaaGreatDoor
