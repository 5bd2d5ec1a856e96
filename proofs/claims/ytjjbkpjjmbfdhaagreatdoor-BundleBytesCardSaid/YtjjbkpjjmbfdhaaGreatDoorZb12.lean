import Derived.Test.YtjjbkpjjmbfdhaaGreatDoorZb00
import Derived.Test.YtjjbkpjjmbfdhaaGreatDoorZb02
import Derived.Test.YtjjbkpjjmbfdhaaGreatDoorZb11
import Derived.Laws.RangeString
import Derived.Laws.RangeAny
import Derived.Lib.RuneCount
import Derived.BigQuiet
set_option linter.unusedVariables false
set_option linter.unusedSimpArgs false
set_option maxRecDepth 100000
namespace Go.Proofs.YtjjbkpjjmbfdhaaGreatDoor
open Lib (hid)
open Go.RowKit
def TxLabel (w:World):Prop:=∀ (s:ByteArray) (W:World),s.size≤1000→w.grownBy W none→Calls Tryz.prog 28 #[.string s] W fun e w'=>W.grownBy w' none∧e=.returned (.bool (Pt.label (strL s)))
theorem isOf_any (r:Nat) (hr:r≤1114111) (w:World) :
  Calls Tryz.prog 71 #[.int .i32 r] w fun e w'=>e=.returned (.bool (Pt.okc r))∧w'=w:=by
 go_enter Tryz.func71,Tryz.ntmps71
 go_wp2
 all_goals (go_ret;refine ⟨congrArg Ending.returned (congrArg Value.bool ?_),rfl⟩;rw[Bool.eq_iff_iff];simp[Pt.okc];omega)
theorem index_str {P:Program} (w:World) (t:TypeId) (ht:P.underlying t=some .string) (s:ByteArray) (i:Int) (n:Nat) (hi:i=n) (hn:n<s.size) :
  (Instr.index t (.string s) (.int .i64 i)).run P w=.ok (.int .u8 ((strL s).getD n 0:Nat)) w:=by
 subst hi
 have h1:0≤(n:Int)∧(n:Int)<(s.size:Int):=by omega
 have h2:(s[(n:Int).toNat]'(by rw[Int.toNat_natCast];exact hn)).toNat=(strL s).getD n 0:=by
  have e:strL s=Pt.nums s.data.toList:=rfl
  rw[e,Pt.nums_at,Lib.getD_get!']
  congr 1
  cases s with
  |mk d=>exact (getElem!_pos d n hn).symm
 rw[run_index_string w t s .i64 (n:Int) ht,dif_pos h1,←h2]
theorem label_any (w:World):TxLabel w:=by
 intro s W hs hg
 have hz:s.data.toList.length=s.size:=by rw[Array.length_toList];rfl
 have hzl:=strL_len s
 have eL:Pt.label (strL s)=(decide (1≤s.size∧s.size≤24)&&(decide ((strL s).getD 0 0≠45)&&(decide ((strL s).getD (s.size-1) 0≠45)&&(strL s).all Pt.okc))):=by rw[Pt.label,hzl]
 rw[eL]
 clear eL
 by_cases h0:s.size=0
 ·rw[decide_eq_false (p:=1≤s.size∧s.size≤24) (by omega),Bool.false_and]
  go_enter Tryz.func28,Tryz.ntmps28
  go_wp2
  go_ret
  exact ⟨grown_refl _ _,rfl⟩
 ·have z0:((s.size:Int)==0)=false:=by rw[beq_eq_false_iff_ne];omega
  by_cases h24:24<s.size
  ·rw[decide_eq_false (p:=1≤s.size∧s.size≤24) (by omega),Bool.false_and]
   have z24:(24:Int)<(s.size:Int):=by omega
   go_enter Tryz.func28,Tryz.ntmps28
   go_wp2
   go_ret
   exact ⟨grown_refl _ _,rfl⟩
  ·rw[decide_eq_true (p:=1≤s.size∧s.size≤24) (by omega),Bool.true_and]
   have z24:¬ (24:Int)<(s.size:Int):=by omega
   have i0:∀ w,(Instr.index 9 (.string s) (.int .i64 0)).run Tryz.prog w=.ok (.int .u8 ((strL s).getD 0 0:Nat)) w:=fun w=>index_str w 9 Tryz.underlying9 s 0 0 rfl (by omega)
   have iL:∀ w,(Instr.index 9 (.string s) (.int .i64 ((s.size:Int)-1))).run Tryz.prog w=.ok (.int .u8 ((strL s).getD (s.size-1) 0:Nat)) w:=fun w=>index_str w 9 Tryz.underlying9 s _ (s.size-1) (by omega) (by omega)
   generalize (strL s).getD 0 0=x at *
   generalize (strL s).getD (s.size-1) 0=y at *
   by_cases hx:x=45
   ·subst hx
    rw[decide_eq_false (p:=(45:Nat)≠45) (by omega),Bool.false_and]
    go_enter Tryz.func28,Tryz.ntmps28
    go_wp2
    go_ret
    exact ⟨grown_refl _ _,rfl⟩
   ·rw[decide_eq_true hx,Bool.true_and]
    have zx:((x:Int)==45)=false:=by rw[beq_eq_false_iff_ne];omega
    by_cases hy:y=45
    ·subst hy
     rw[decide_eq_false (p:=(45:Nat)≠45) (by omega),Bool.false_and]
     go_enter Tryz.func28,Tryz.ntmps28
     go_wp2
     go_ret
     exact ⟨grown_refl _ _,rfl⟩
    ·rw[decide_eq_true hy,Bool.true_and]
     have zy:((y:Int)==45)=false:=by rw[beq_eq_false_iff_ne];omega
     have eP:(strL s).all Pt.okc=(Pt.nums (s.data.toList.drop 0)).all Pt.okc:=by rw[List.drop_zero];rfl
     rw[eP]
     obtain ⟨R,hR⟩:∃ R,R=(Pt.nums (s.data.toList.drop 0)).all Pt.okc:=⟨_,rfl⟩
     rw[←hR]
     have H0:Hid (R=(Pt.nums (s.data.toList.drop 0)).all Pt.okc):=hid hR
     have HZ:=hid hz
     clear hR eP hz hzl hg
     go_enter Tryz.func28,Tryz.ntmps28
     go_wp2
     go_loopw [4] (fun _ w'=>∃ pos,w'=W.iter s pos∧Hid (R=(Pt.nums (s.data.toList.drop pos)).all Pt.okc)) (fun _ w'=>s.size-w'.iterPos W.heap.size)
     case atStart=>exact ⟨0,rfl,H0⟩
     case round =>
      obtain ⟨pos,rfl,H1⟩:=hrel
      clear H0
      by_cases hp:pos<s.size
      ·have hnx:∀ ty,(Instr.next (.pointer (some ⟨W.heap.size,0,none⟩)) true ty).run Tryz.prog (W.iter s pos)=_:=fun ty=>run_next_any W s pos ty hp
       have hwd:=Lib.decode_width_pos s pos hp
       have hr:=Lib.rune_le s pos
       have hd:=Pt.allok_decode (s.data.toList.drop pos) (by intro e;have:=congrArg List.length e;rw[List.length_drop,HZ.out,List.length_nil] at this;omega)
       rw[Lib.decodeL_drop,List.drop_drop,←H1.out] at hd
       generalize (Utf8.decode s pos).1=r at *
       generalize (Utf8.decode s pos).2=k at *
       have hI:=fun W=>isOf_any r hr W
       have HD:=hid hd
       clear hd H1
       cases hok:Pt.okc r with
       |false =>
        have hR:R=false:=by rw[HD.out,hok,Bool.false_and]
        subst hR
        rw[hok] at hI
        go_wp2_with (go_at_call 71;refine (hI _).mono ?_;rintro e w3 ⟨rfl,rfl⟩)
        go_ret
        exact ⟨grown_alloc (grown_refl _ _) _,rfl⟩
       |true =>
        have HR:Hid (R=(Pt.nums (s.data.toList.drop (pos+k))).all Pt.okc):=hid (by have h:=HD.out;rw[hok,Bool.true_and] at h;exact h)
        rw[hok] at hI
        clear HD
        go_wp2_with (go_at_call 71;refine (hI _).mono ?_;rintro e w3 ⟨rfl,hw3⟩;have hw3':=hw3.symm;subst hw3';clear hw3)
        go_roundw
        case rel=>exact ⟨pos+k,rfl,HR⟩
        case measure=>simp;omega
      ·have hnx:∀ ty,(Instr.next (.pointer (some ⟨W.heap.size,0,none⟩)) true ty).run Tryz.prog (W.iter s pos)=_:=fun ty=>run_next_end W s pos ty hp
       have hR:R=true:=by
        rw[H1.out,List.drop_eq_nil_of_le (by rw[HZ.out];omega)]
        rfl
       subst hR
       go_wp2
       go_ret
       exact ⟨grown_alloc (grown_refl _ _) _,rfl⟩
namespace Wh
theorem be_drop1 (u k:Nat):(be (k+1) u).drop 1=be k u:=rfl
theorem be_drop (u:Nat):∀ (d j:Nat),(be (d+j) u).drop d=be j u
 |0,j=>by rw[Nat.zero_add];rfl
 |d+1,j=>by
  rw[show d+1+j=(d+j)+1 by omega,Nat.add_comm d 1,←List.drop_drop,be_drop1,be_drop u d j]
theorem strip_drop:∀ l:List Nat,∃ d,d≤l.length∧strip l=l.drop d
 |[]=>⟨0,by simp,rfl⟩
 |[_]=>⟨0,by simp,rfl⟩
 |x :: y :: r=>by
  rw[strip]
  split
  ·obtain ⟨d,h,e⟩:=strip_drop (y :: r)
   exact ⟨d+1,by simp at h ⊢;omega,e⟩
  ·exact ⟨0,by simp,rfl⟩
theorem body_be (n:Int):body n=be (body n).length (u64 n):=by
 obtain ⟨d,h,e⟩:=strip_drop (be 8 (u64 n))
 rw[be_len] at h
 obtain ⟨j,hj⟩:∃ j,d+j=8:=⟨8-d,by omega⟩
 rw[←hj,be_drop] at e
 have hb:body n=be j (u64 n):=by rw[body,←hj];exact e
 rw[hb,be_len]
end Wh
theorem bytesV_setz (m x:Nat) (t:List Nat):(bytesV (List.replicate (m+1) 0++t)).setIfInBounds m (.int .u8 (x:Int))=bytesV (List.replicate m 0++x :: t):=by
 unfold bytesV
 rw[List.setIfInBounds_toArray,List.replicate_succ',List.append_assoc,List.map_append,List.set_append_right _ _ (by simp)]
 simp
theorem makeL (L:Nat) (hL:L≤100) (W:World):(Instr.makeSlice 27 (.int .i64 (L:Int)) (.int .i64 (L:Int))).run Tryz.prog W=.ok (.slice (some ⟨W.heap.size,0,none⟩) L L) (W.alloc (.cells (bytesV (List.replicate L 0)) 5)):=by
 obtain ⟨iT,i1,i2,i3,i4⟩:=info_parts (P:=Tryz.prog) (e:=5) (z:=.int .u8 0) (size:=1) (bytes:=1) (by kernel_rfl)
 rw[run_makeSlice W 27 5 iT (.int .u8 0) Tryz.underlying27 i1 i2 .i64 .i64 L L (by omega) (by omega) (by rw[i3];simp;omega) (by rw[i4];simp;omega) (by omega),i3]
 have e:madeCells (Value.int IntKind.u8 0).cells (Int.toNat (L:Int)*1)=bytesV (List.replicate L 0):=by
  simp[madeCells,bytesV,Value.cells]
  apply Array.ext
  ·simp
  ·intro i h1 h2
   simp[Nat.mod_one]
 rw[e]
 rfl
theorem shr_byte (n:Int) (k:Nat) (hk:k<8):n/2 ^ (8*k)%256=((Wh.u64 n/256 ^ k%256:Nat):Int):=by
 have e:((2:Int) ^ (8*k))=((256 ^ k:Nat):Int):=by
  rw[show (256:Nat)=2 ^ 8 from rfl,←Nat.pow_mul]
  exact (Int.natCast_pow 2 (8*k)).symm
 have hu:(Wh.u64 n:Int)=n%18446744073709551616:=by unfold Wh.u64;omega
 rw[e,Int.natCast_emod,Int.natCast_ediv,hu]
 obtain ⟨q,hq⟩:∃ q,n=18446744073709551616*q+n%18446744073709551616:=⟨n/18446744073709551616,by omega⟩
 have hp:(18446744073709551616:Int)=((256 ^ k:Nat):Int)*((256 ^ (7-k):Nat):Int)*256:=by
  have:(18446744073709551616:Nat)=256 ^ k*256 ^ (7-k)*256:=by
   rw[←Nat.pow_add,←Nat.pow_succ,show (k+(7-k)).succ=8 by omega]
  rw[←Int.natCast_mul,show (256:Int)=((256:Nat):Int) from rfl,←Int.natCast_mul,←this]
  rfl
 have hpos:(0:Int)<((256 ^ k:Nat):Int):=by have:=Wh.pow_pos k;omega
 generalize n%18446744073709551616=r at *
 rw[hq,hp]
 generalize ((256 ^ k:Nat):Int)=p at *
 generalize ((256 ^ (7-k):Nat):Int)=s at *
 rw[show p*s*256*q+r=r+p*(s*256*q) by rw[Int.mul_assoc,Int.mul_assoc,Int.mul_assoc,Int.add_comm],Int.add_mul_ediv_left _ _ (by omega),show s*256*q=256*(s*q) by rw[Int.mul_comm s 256,Int.mul_assoc],Int.add_mul_emod_self_left]
 rfl
structure PutW (w wr:World) (L k u:Nat):Prop where
 grown:w.grownBy wr none
 blk:wr.heap[w.heap.size]?=some (.cells (bytesV (List.replicate (L-k) 0++Wh.be k u)) 5 (0,0))
theorem PutW.set {w wr:World} {m k u:Nat} (h:PutW w wr (m+k+1) k u):PutW w (wr.setCell ⟨w.heap.size,m,none⟩ (.int .u8 ((u/256 ^ k%256:Nat):Int))) (m+k+1) (k+1) u:=by
 refine ⟨grown_set h.grown (.inl (Nat.le_refl _)) _,?_⟩
 have hb:=h.blk
 rw[show m+k+1-k=m+1 by omega] at hb
 rw[setCell_heap hb,bytesV_setz,show m+k+1-(k+1)=m by omega,Wh.be]
theorem put_any (n:Int) (h1 : -9223372036854775808≤n) (h2:n≤9223372036854775807) (w:World) :
  Calls Tryz.prog 59 #[.int .i64 n] w fun e w'=>e=.returned (.slice (some ⟨w.heap.size,0,none⟩) (Wh.body n).length (Wh.body n).length)∧w.grownBy w' none∧Bytes w' (.slice (some ⟨w.heap.size,0,none⟩) (Wh.body n).length (Wh.body n).length) (Wh.body n):=by
 have HWb:=hid (wbytes_any n h1 h2 w)
 have hbe:=Wh.body_be n
 have hlt:=Wh.body_lt n
 have hl8:=Wh.body_len n
 obtain ⟨l,hl⟩:∃ l,l=Wh.body n:=⟨_,rfl⟩
 rw[←hl] at HWb hbe hlt hl8 ⊢
 obtain ⟨L,hL⟩:∃ L,L=l.length:=⟨_,rfl⟩
 rw[←hL] at HWb hbe hl8 ⊢
 have HSh:=hid (shr_byte n)
 generalize Wh.u64 n=u at *
 have hmk:=makeL L (by omega) w
 have P0:Hid (PutW w (w.alloc (.cells (bytesV (List.replicate L 0)) 5)) L 0 u):=hid ⟨World.grownBy_alloc _ _ _,by rw[alloc_at,Wh.be,List.append_nil];rfl⟩
 have HBe:=hid hbe
 have HLt:=hid hlt
 have HLen:=hid hL
 clear hbe hlt hl hL h1 h2
 go_enter Tryz.func59,Tryz.ntmps59
 go_wp2_with (go_at_call 105;refine HWb.out.mono ?_;rintro e w' ⟨rfl,hw⟩;have hw2:=hw.symm;subst hw2)
 clear hmk
 go_loopw [11] (fun i wr=>∃ k:Nat,k≤L∧i=.int .i64 k∧PutW w wr L k u) (fun i _=>L-(intOf i).toNat)
 case atStart=>exact ⟨0,by omega,rfl,P0.out⟩
 case round =>
  obtain ⟨k,hk,rfl,hP⟩:=hrel
  have HP:=hid hP
  clear hP
  by_cases hkL:k<L
  ·obtain ⟨m,rfl⟩:∃ m,L=m+k+1:=⟨L-k-1,by omega⟩
   have hz:wr.cell? ⟨w.heap.size,m,none⟩=some (.int .u8 0):=cell_blk HP.out.blk m (by rw[show m+k+1-k=m+1 by omega,bytesV_at _ _ (by simp;omega)];simp[List.getD_eq_getElem?_getD,List.getElem?_append_left])
   have hf:=free_blk HP.out.blk m
   have hS:=HP.out.set
   rw[←HSh.out k (by omega)] at hS
   have HS:=hid hS
   clear hS
   go_wp2
   go_roundw
   case rel=>exact ⟨k+1,by omega,by go_num,HS.out⟩
   case measure=>simp[intOf];omega
  ·obtain rfl:k=L:=by omega
   have hBy:Bytes wr (.slice (some ⟨w.heap.size,0,none⟩) k k) l:=by
    have hb:=HP.out.blk
    rw[Nat.sub_self,List.replicate_zero,List.nil_append,←HBe.out] at hb
    rw[HLen.out]
    exact Bytes.lit (by simpa [bytesV,cellsL] using hb) HLt.out
   have HBy:=hid hBy
   clear hBy
   go_wp2
   go_ret
   exact ⟨rfl,HP.out.grown,HBy.out⟩
end Go.Proofs.YtjjbkpjjmbfdhaaGreatDoor
