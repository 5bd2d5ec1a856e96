import Derived.Test.YtndkifkhdollgaaGreatDoorZs01
import Derived.Test.YtndkifkhdollgaaGreatDoorZs03
import Derived.Test.YtndkifkhdollgaaGreatDoorZs12
import Derived.Test.YtndkifkhdollgaaGreatDoorChecked
import Derived.WalkKit
set_option linter.unusedVariables false
set_option linter.unusedSimpArgs false
set_option maxRecDepth 100000
namespace Go.Proofs.YtndkifkhdollgaaGreatDoor
open Lib (hid)
open Go.RowKit
theorem bitLen_lt:∀ (j x:Nat),x<18446744073709551616→(Lib.bitLen x≤j↔x<2 ^ j)
 |0,x,hx=>by
  rcases Nat.eq_zero_or_pos x with h|h
  ·subst h
   rw[show Lib.bitLen 0=0 from by decide];simp
  ·rw[Lib.bitLen_half x (by omega) hx];simp;omega
 |j+1,x,hx=>by
  rcases Nat.eq_zero_or_pos x with h|h
  ·subst h
   exact ⟨fun _=>Nat.two_pow_pos _,fun _=>by rw[show Lib.bitLen 0=0 from by decide];omega⟩
  ·rw[Lib.bitLen_half x (by omega) hx,Nat.pow_succ]
   have:=bitLen_lt j (x/2) (by omega)
   omega
namespace Wh
def mag (n:Int):Nat:=if n<0 then (-n-1).toNat else n.toNat
theorem mag_lt {n:Int} {p:Nat} (h1 : -(128*p:Int)≤n) (h2:n<(128*p:Int)):mag n<128*p:=by
 unfold mag
 split <;> omega
theorem mag_ge {n:Int} {p:Nat} (h:n < -(128*p:Int)∨(128*p:Int)≤n):128*p≤mag n:=by
 unfold mag
 split <;> omega
theorem p256 (k:Nat):128*256 ^ k=2 ^ (8*k+7):=by
 rw[Nat.pow_add,show (2:Nat) ^ 7=128 from rfl,Nat.pow_mul,show (2:Nat) ^ 8=256 from rfl,Nat.mul_comm]
theorem bits_of (n:Int) (l:List Nat) (b:Nat) (hb:∀ j,b≤j↔mag n<2 ^ j) (hn:l≠[]) (hv:val l=n) (hlt:∀ x∈l,x<256) (hm:needless l=false):l.length=b/8+1:=by
 rcases l with _|⟨x,r⟩
 ·exact absurd rfl hn
 ·have hlo:=val_lo hlt
  have hc:((256:Int) ^ r.length)=((256 ^ r.length:Nat):Int):=by simp
  rw[hv,hc] at hlo
  have a1:=mag_lt hlo.1 hlo.2
  rw[p256] at a1
  have b1:=(hb (8*r.length+7)).2 a1
  have b2:8*r.length≤b:=by
   rcases r with _|⟨y,s⟩
   ·simp
   ·have hhi:=val_hi hlt hm
    have hc:((256:Int) ^ s.length)=((256 ^ s.length:Nat):Int):=by simp
    rw[hv,hc] at hhi
    have a2:=mag_ge hhi
    rw[p256] at a2
    have b3:=hb (8*s.length+7)
    have b4:¬ b≤8*s.length+7:=fun h=>Nat.lt_irrefl _ (Nat.lt_of_lt_of_le (b3.1 h) a2)
    rw[List.length_cons]
    clear a1 b1 hlo hhi a2 b3
    omega
  rw[List.length_cons]
  clear a1 hlo hb
  omega
theorem body_bits (n:Int) (h1 : -9223372036854775808≤n) (h2:n≤9223372036854775807):(body n).length=Lib.bitLen (mag n)/8+1∧mag n<9223372036854775808:=by
 have hM:mag n<9223372036854775808:=by unfold mag;split <;> omega
 exact ⟨bits_of n _ _ (fun j=>bitLen_lt j _ (by omega)) (body_ne n) (body_val n h1 h2) (body_lt n) (body_min n),hM⟩
end Wh
theorem xor_wrap (m:Nat) (hm:m<9223372036854775808):IntKind.u64.wrap (bits .xor .i64 (if IntKind.i64.signed=true then -1 else 9223372036854775807) (-(m:Int)-1))=m:=by
 have e:(if IntKind.i64.signed=true then (-1:Int) else 9223372036854775807)=-1:=rfl
 have h:bits .xor .i64 (-1) (-(m:Int)-1)=m:=by
  show IntKind.i64.wrap ((BitVec.ofInt 64 (-1) ^^^ BitVec.ofInt 64 (-(m:Int)-1)).toNat:Int)=_
  have h1:BitVec.ofInt 64 (-1)=BitVec.allOnes 64:=rfl
  have h2:BitVec.allOnes 64 ^^^ BitVec.ofInt 64 (-(m:Int)-1) = ~~~ BitVec.ofInt 64 (-(m:Int)-1):=BitVec.allOnes_xor
  have h3:(BitVec.ofInt 64 (-(m:Int)-1)).toNat=18446744073709551615-m:=by
   rw[BitVec.toNat_ofInt]
   simp only[Nat.reducePow,Int.cast_ofNat_Int]
   omega
  rw[h1,h2,BitVec.toNat_not,h3]
  simp only[IntKind.wrap,IntKind.bits,IntKind.signed]
  simp
  omega
 rw[e,h]
 simp only[IntKind.wrap,IntKind.bits,IntKind.signed]
 simp
 omega
theorem wbytes_any (n:Int) (h1 : -9223372036854775808≤n) (h2:n≤9223372036854775807) (w:World) :
  Calls Tryz.prog 146 #[.int .i64 n] w fun e w'=>e=.returned (.int .i64 (Wh.body n).length)∧w'=w:=by
 obtain ⟨hl,hm⟩:=Wh.body_bits n h1 h2
 have HL:=hid hl
 obtain ⟨m,hmn⟩:∃ m,m=Wh.mag n:=⟨_,rfl⟩
 rw[←hmn] at HL hm
 have hb64:Lib.bitLen m≤64:=(bitLen_lt 64 m (Nat.lt_trans hm (by decide))).2 (Nat.lt_trans hm (by decide))
 obtain ⟨L,hL⟩:∃ L,L=(Wh.body n).length:=⟨_,rfl⟩
 rw[←hL] at HL hl ⊢
 clear hL
 have hB:=fun w=>bitsLen_any (m:Int) w (by omega) (by clear hb64 hl HL;omega)
 rw[Int.toNat_natCast] at hB
 generalize Lib.bitLen m=b at *
 have HB:=hid hB
 clear hB
 by_cases hn:n<0
 ·have e1:n=-(m:Int)-1:=by rw[hmn,Wh.mag,if_pos hn];omega
  subst e1
  clear hmn hl h1 h2
  go_enter Tryz.func146,Tryz.ntmps146
  go_wp2_with (go_at_call 181;rw[xor_wrap m hm];refine (HB.out _).mono ?_;rintro e w' ⟨rfl,rfl⟩)
  go_ret
  refine ⟨ret_int ?_,rfl⟩
  rw[HL.out]
  omega
 ·have e1:n=(m:Int):=by rw[hmn,Wh.mag,if_neg hn];omega
  subst e1
  clear hmn hl h1 h2
  go_enter Tryz.func146,Tryz.ntmps146
  go_wp2_with (go_at_call 181;refine (HB.out _).mono ?_;rintro e w' ⟨rfl,rfl⟩)
  go_ret
  refine ⟨ret_int ?_,rfl⟩
  rw[HL.out]
  omega
namespace Wh
theorem be_drop1 (u k:Nat):(be (k+1) u).drop 1=be k u:=rfl
theorem be_drop (u:Nat):∀ (d j:Nat),(be (d+j) u).drop d=be j u
 |0,j=>by rw[Nat.zero_add];rfl
 |d+1,j=>by
  rw[show d+1+j=(d+j)+1 by omega,Nat.add_comm d 1,←List.drop_drop,be_drop1,be_drop u d j]
theorem strip_drop:∀ l:List Nat,∃ d,d≤l.length∧strip l=l.drop d
 |[]=>⟨0,by simp,rfl⟩
 |[_]=>⟨0,by simp,rfl⟩
 |x :: y :: r=>by
  rw[strip]
  split
  ·obtain ⟨d,h,e⟩:=strip_drop (y :: r)
   exact ⟨d+1,by simp at h ⊢;omega,e⟩
  ·exact ⟨0,by simp,rfl⟩
theorem body_be (n:Int):body n=be (body n).length (u64 n):=by
 obtain ⟨d,h,e⟩:=strip_drop (be 8 (u64 n))
 rw[be_len] at h
 obtain ⟨j,hj⟩:∃ j,d+j=8:=⟨8-d,by omega⟩
 rw[←hj,be_drop] at e
 have hb:body n=be j (u64 n):=by rw[body,←hj];exact e
 rw[hb,be_len]
end Wh
theorem bytesV_setz (m x:Nat) (t:List Nat):(bytesV (List.replicate (m+1) 0++t)).setIfInBounds m (.int .u8 (x:Int))=bytesV (List.replicate m 0++x :: t):=by
 unfold bytesV
 rw[List.setIfInBounds_toArray,List.replicate_succ',List.append_assoc,List.map_append,List.set_append_right _ _ (by simp)]
 simp
theorem makeL (L:Nat) (hL:L≤100) (W:World):(Instr.makeSlice 22 (.int .i64 (L:Int)) (.int .i64 (L:Int))).run Tryz.prog W=.ok (.slice (some ⟨W.heap.size,0,none⟩) L L) (W.alloc (.cells (bytesV (List.replicate L 0)) 5)):=by
 obtain ⟨iT,i1,i2,i3,i4⟩:=info_parts (P:=Tryz.prog) (e:=5) (z:=.int .u8 0) (size:=1) (bytes:=1) (by kernel_rfl)
 rw[run_makeSlice W 22 5 iT (.int .u8 0) Tryz.underlying22 i1 i2 .i64 .i64 L L (by omega) (by omega) (by rw[i3];simp;omega) (by rw[i4];simp;omega) (by omega),i3]
 have e:madeCells (Value.int IntKind.u8 0).cells (Int.toNat (L:Int)*1)=bytesV (List.replicate L 0):=by
  simp[madeCells,bytesV,Value.cells]
  apply Array.ext
  ·simp
  ·intro i h1 h2
   simp[Nat.mod_one]
 rw[e]
 rfl
theorem shr_byte (n:Int) (k:Nat) (hk:k<8):n/2 ^ (8*k)%256=((Wh.u64 n/256 ^ k%256:Nat):Int):=by
 have e:((2:Int) ^ (8*k))=((256 ^ k:Nat):Int):=by
  rw[show (256:Nat)=2 ^ 8 from rfl,←Nat.pow_mul]
  exact (Int.natCast_pow 2 (8*k)).symm
 have hu:(Wh.u64 n:Int)=n%18446744073709551616:=by unfold Wh.u64;omega
 rw[e,Int.natCast_emod,Int.natCast_ediv,hu]
 obtain ⟨q,hq⟩:∃ q,n=18446744073709551616*q+n%18446744073709551616:=⟨n/18446744073709551616,by omega⟩
 have hp:(18446744073709551616:Int)=((256 ^ k:Nat):Int)*((256 ^ (7-k):Nat):Int)*256:=by
  have:(18446744073709551616:Nat)=256 ^ k*256 ^ (7-k)*256:=by
   rw[←Nat.pow_add,←Nat.pow_succ,show (k+(7-k)).succ=8 by omega]
  rw[←Int.natCast_mul,show (256:Int)=((256:Nat):Int) from rfl,←Int.natCast_mul,←this]
  rfl
 have hpos:(0:Int)<((256 ^ k:Nat):Int):=by have:=Wh.pow_pos k;omega
 generalize n%18446744073709551616=r at *
 rw[hq,hp]
 generalize ((256 ^ k:Nat):Int)=p at *
 generalize ((256 ^ (7-k):Nat):Int)=s at *
 rw[show p*s*256*q+r=r+p*(s*256*q) by rw[Int.mul_assoc,Int.mul_assoc,Int.mul_assoc,Int.add_comm],Int.add_mul_ediv_left _ _ (by omega),show s*256*q=256*(s*q) by rw[Int.mul_comm s 256,Int.mul_assoc],Int.add_mul_emod_self_left]
 rfl
structure PutW (w wr:World) (L k u:Nat):Prop where
 grown:w.grownBy wr none
 blk:wr.heap[w.heap.size]?=some (.cells (bytesV (List.replicate (L-k) 0++Wh.be k u)) 5 (0,0))
theorem PutW.set {w wr:World} {m k u:Nat} (h:PutW w wr (m+k+1) k u):PutW w (wr.setCell ⟨w.heap.size,m,none⟩ (.int .u8 ((u/256 ^ k%256:Nat):Int))) (m+k+1) (k+1) u:=by
 refine ⟨grown_set h.grown (.inl (Nat.le_refl _)) _,?_⟩
 have hb:=h.blk
 rw[show m+k+1-k=m+1 by omega] at hb
 rw[setCell_heap hb,bytesV_setz,show m+k+1-(k+1)=m by omega,Wh.be]
theorem put_any (n:Int) (h1 : -9223372036854775808≤n) (h2:n≤9223372036854775807) (w:World) :
  Calls Tryz.prog 94 #[.int .i64 n] w fun e w'=>e=.returned (.slice (some ⟨w.heap.size,0,none⟩) (Wh.body n).length (Wh.body n).length)∧w.grownBy w' none∧Bytes w' (.slice (some ⟨w.heap.size,0,none⟩) (Wh.body n).length (Wh.body n).length) (Wh.body n):=by
 have HWb:=hid (wbytes_any n h1 h2 w)
 have hbe:=Wh.body_be n
 have hlt:=Wh.body_lt n
 have hl8:=Wh.body_len n
 obtain ⟨l,hl⟩:∃ l,l=Wh.body n:=⟨_,rfl⟩
 rw[←hl] at HWb hbe hlt hl8 ⊢
 obtain ⟨L,hL⟩:∃ L,L=l.length:=⟨_,rfl⟩
 rw[←hL] at HWb hbe hl8 ⊢
 have HSh:=hid (shr_byte n)
 generalize Wh.u64 n=u at *
 have hmk:=makeL L (by omega) w
 have P0:Hid (PutW w (w.alloc (.cells (bytesV (List.replicate L 0)) 5)) L 0 u):=hid ⟨World.grownBy_alloc _ _ _,by rw[alloc_at,Wh.be,List.append_nil];rfl⟩
 have HBe:=hid hbe
 have HLt:=hid hlt
 have HLen:=hid hL
 clear hbe hlt hl hL h1 h2
 go_enter Tryz.func94,Tryz.ntmps94
 go_wp2_with (go_at_call 146;refine HWb.out.mono ?_;rintro e w' ⟨rfl,hw⟩;have hw2:=hw.symm;subst hw2)
 clear hmk
 go_loopw [11] (fun i wr=>∃ k:Nat,k≤L∧i=.int .i64 k∧PutW w wr L k u) (fun i _=>L-(intOf i).toNat)
 case atStart=>exact ⟨0,by omega,rfl,P0.out⟩
 case round =>
  obtain ⟨k,hk,rfl,hP⟩:=hrel
  have HP:=hid hP
  clear hP
  by_cases hkL:k<L
  ·obtain ⟨m,rfl⟩:∃ m,L=m+k+1:=⟨L-k-1,by omega⟩
   have hz:wr.cell? ⟨w.heap.size,m,none⟩=some (.int .u8 0):=cell_blk HP.out.blk m (by rw[show m+k+1-k=m+1 by omega,bytesV_at _ _ (by simp;omega)];simp[List.getD_eq_getElem?_getD,List.getElem?_append_left])
   have hf:=free_blk HP.out.blk m
   have hS:=HP.out.set
   rw[←HSh.out k (by omega)] at hS
   have HS:=hid hS
   clear hS
   go_wp2
   go_roundw
   case rel=>exact ⟨k+1,by omega,by go_num,HS.out⟩
   case measure=>simp[intOf];omega
  ·obtain rfl:k=L:=by omega
   have hBy:Bytes wr (.slice (some ⟨w.heap.size,0,none⟩) k k) l:=by
    have hb:=HP.out.blk
    rw[Nat.sub_self,List.replicate_zero,List.nil_append,←HBe.out] at hb
    rw[HLen.out]
    exact Bytes.lit (by simpa [bytesV,cellsL] using hb) HLt.out
   have HBy:=hid hBy
   clear hBy
   go_wp2
   go_ret
   exact ⟨rfl,HP.out.grown,HBy.out⟩
end Go.Proofs.YtndkifkhdollgaaGreatDoor
