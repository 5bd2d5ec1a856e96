import Derived.Test.YtjjbkpjjmbfdhaaGreatDoorZb01
import Derived.Test.YtjjbkpjjmbfdhaaGreatDoorZb03
import Derived.Test.YtjjbkpjjmbfdhaaGreatDoorZb08
import Derived.Test.YtjjbkpjjmbfdhaaGreatDoorZb11
import Derived.Test.YtjjbkpjjmbfdhaaGreatDoorZb13
set_option linter.unusedVariables false
set_option linter.unusedSimpArgs false
set_option maxRecDepth 100000
set_option maxHeartbeats 1000000
namespace Go.Proofs.YtjjbkpjjmbfdhaaGreatDoor
open Lib (hid)
open Go.RowKit
theorem refMade_any (t:Int) (w:World) :
  Calls Tryz.prog 95 #[.int .i64 t] w fun e w'=>e=.returned (.bool (Tl.made t))∧w'=w:=by
 go_enter Tryz.func95,Tryz.ntmps95
 go_wp2
 all_goals (go_ret;exact ⟨ret_boolT (by rw[Bool.eq_iff_iff];simp[Tl.made] <;> omega),rfl⟩)
theorem refKnown_any (t:Int) (w:World) :
  Calls Tryz.prog 162 #[.int .i64 t] w fun e w'=>e=.returned (.bool (Tl.known t))∧w'=w:=by
 have HM:=hid (refMade_any t w)
 go_enter Tryz.func162,Tryz.ntmps162
 generalize hm:Tl.made t=m at *
 have Hm:=hid hm
 clear hm
 cases m
 ·go_wp2_with (go_at_call 95;refine HM.out.mono ?_;rintro e w2 ⟨rfl,rfl⟩)
  all_goals (go_ret;refine ⟨ret_boolT ?_,rfl⟩;unfold Tl.known;rw[Hm.out,Bool.eq_iff_iff];simp <;> omega)
 ·go_wp2_with (go_at_call 95;refine HM.out.mono ?_;rintro e w2 ⟨rfl,rfl⟩)
  all_goals (go_ret;refine ⟨ret_boolT ?_,rfl⟩;unfold Tl.known;rw[Hm.out];rfl)
theorem lenB1 {n:Nat} (h:n<128):Tl.lenB n=[n]:=by unfold Tl.lenB;rw[if_pos h]
theorem lenB2 {n:Nat} (h:¬ n<128) (h2:n<256):Tl.lenB n=[129,n]:=by
 unfold Tl.lenB Tl.more
 rw[if_neg h,if_neg h,if_pos h2]
 simp[Tl.be]
 omega
theorem lenB3 {n:Nat} (h:¬ n<256) (h2:n<65536):Tl.lenB n=[130,n/256,n%256]:=by
 unfold Tl.lenB Tl.more
 rw[if_neg (by omega),if_neg (by omega),if_neg h,if_pos h2]
 simp[Tl.be]
 omega
theorem refLen_any (n:Nat) (hn:n≤65530) (w:World) :
  Calls Tryz.prog 161 #[.int .i64 n] w fun e w'=>∃ v,e=.returned v∧FrW w w' v (Tl.lenB n):=by
 have lit:∀ l:List Nat,l.length≤1000→FrW w (w.alloc (.cells (cellsL l).toArray 5)) (.slice (some ⟨w.heap.size,0,none⟩) l.length l.length) l:=fun l hl=>by
  have h:=ownsRow_lit (alloc_at w (.cells (cellsL l).toArray 5)) (Nat.le_refl _) (by simp[cellsL];omega)
  have e:(cellsL l).toArray.size=l.length:=by simp[cellsL]
  rw[e] at h
  exact ⟨World.grownBy_alloc _ _ _,by simpa using h⟩
 have HL:=hid lit
 clear lit
 by_cases h1:n<128
 ·have HX:=hid (lenB1 h1)
  go_enter Tryz.func161,Tryz.ntmps161
  go_wp2
  go_ret
  refine ⟨_,rfl,?_⟩
  rw[HX.out]
  exact HL.out [n] (by simp)
 ·by_cases h2:n<256
  ·have HX:=hid (lenB2 h1 h2)
   go_enter Tryz.func161,Tryz.ntmps161
   go_wp2
   go_ret
   refine ⟨_,rfl,?_⟩
   rw[HX.out]
   exact HL.out [129,n] (by simp)
  ·have HX:=hid (lenB3 h2 (by omega))
   have d1:decide ((n:Int)<128)=false:=decide_eq_false (by omega)
   have d2:decide ((n:Int)<256)=false:=decide_eq_false (by omega)
   have d3:decide ((n:Int)<65536)=true:=decide_eq_true (by omega)
   have hq:n/256<256:=by omega
   have hq2:(n:Int)/256<256:=by omega
   clear h1 h2 hn
   go_enter Tryz.func161,Tryz.ntmps161
   go_wp2
   go_ret
   refine ⟨_,rfl,?_⟩
   rw[HX.out]
   have:=HL.out [130,n/256,n%256] (by simp)
   rw[show (cellsL [130,n/256,n%256]).toArray=#[Value.int IntKind.u8 130,Value.int IntKind.u8 ((n:Int)/256),Value.int IntKind.u8 ((n:Int)%256)] from by simp[cellsL]] at this
   exact this
theorem refPut_any (t:Nat) (ht:t<256) (v:Value) (l:List Nat) (w:World) (hB:Bytes w v l) (h0:Whole0 v) (hl:l.length≤65530) :
  Calls Tryz.prog 124 #[.int .i64 t,v] w fun e w'=>∃ u,e=.returned u∧FrW w w' u (Tl.elem t l):=by
 have HB:=hid hB
 have H0:=hid h0
 obtain ⟨_,va,vsb,vso,vc,rfl,_⟩:=hB
 obtain ⟨n,hn⟩:∃ n,n=l.length:=⟨_,rfl⟩
 have HN:=hid hn
 rw[←hn] at HB H0 hl ⊢
 have F1:Hid (FrW w (w.alloc (.cells #[.int .u8 t] 5)) (.slice (some ⟨w.heap.size,0,none⟩) 1 1) [t]):=hid ⟨World.grownBy_alloc _ _ _,ownsRow_lit (alloc_at w _) (Nat.le_refl _) (by simp)⟩
 have HLn:Hid ((Tl.lenB n).length≤5):=hid (by rw[Tl.lenB_len];have:=Tl.more_le n;omega)
 have HLl:=hid (Tl.lenB_lt n)
 have HEl:Hid (Tl.elem t l=[t]++Tl.lenB n++l):=hid (by rw[Tl.elem,←hn];rfl)
 have HRL:=hid (fun W=>refLen_any n hl W)
 generalize Tl.lenB n=ln at *
 clear h0 hn
 go_enter Tryz.func124,Tryz.ntmps124
 go_wp2_with (first
  |(go_at_call 161;refine (HRL.out _).mono ?_;rintro e w2 ⟨u,rfl,hF2⟩;have hB2:=Bytes.own hF2.own HLl.out;have hW2:=Whole0.own hF2.own;have F2:Hid (FrW w w2 (.slice (some ⟨w.heap.size,0,none⟩) 1 1) [t]):=hid ⟨grown_trans F1.out.grown hF2.grown,F1.out.own.kept hF2.grown (Classical.em _)⟩;have HB2:=hid hB2;have HW2:=hid hW2;obtain ⟨ua,_,uc,rfl,_⟩:=ownsRow_form hF2.own;clear hF2 hB2 hW2)
  |(at_builtin;refine wpList_appB (by rfl) (.tmp 7) (.tmp 10) 27 (by rfl) w.heap.size 5 (.int .u8 0) 1 Tryz.underlying27 (by kernel_rfl) rfl (by decide) _ 1 (cellsL [t]) (by rfl) F2.out.own _ ln (by rfl) HB2.out HW2.out (by have:=HLn.out;omega) F2.out.le ?_;intro v3 w3 ho3 hg3;have F3:=hid (F2.out.step (l':=[t]++ln) ho3 hg3 (cellsL_append _ _).symm);clear ho3 hg3)
  |(at_builtin;refine wpList_appB (by rfl) (.tmp 11) (.tmp 12) 27 (by rfl) w.heap.size 5 (.int .u8 0) 1 Tryz.underlying27 (by kernel_rfl) rfl (by decide) v3 _ (cellsL ([t]++ln)) (by rfl) F3.out.own _ l (by rfl) (HB.out.grown F3.out.grown) H0.out (by rw[List.length_append,←HN.out];have:=HLn.out;simp;omega) F3.out.le ?_;intro v4 w4 ho4 hg4;have F4:=hid (F3.out.step (l':=[t]++ln++l) ho4 hg4 (cellsL_append _ _).symm);clear ho4 hg4))
 go_ret
 exact ⟨_,rfl,by rw[HEl.out];exact F4.out⟩
theorem lenB4 {n:Nat} (h:¬ n<65536) (h2:n<16777216):Tl.lenB n=[131,n/65536,n/256%256,n%256]:=by
 unfold Tl.lenB Tl.more
 rw[if_neg (by omega),if_neg (by omega),if_neg (by omega),if_neg h,if_pos h2]
 simp[Tl.be]
 omega
theorem lenB5 {n:Nat} (h:¬ n<16777216) (h2:n<4294967296):Tl.lenB n=[132,n/16777216,n/65536%256,n/256%256,n%256]:=by
 unfold Tl.lenB Tl.more
 rw[if_neg (by omega),if_neg (by omega),if_neg (by omega),if_neg (by omega),if_neg h]
 simp[Tl.be]
 omega
theorem refLen32_any (n:Nat) (hn:n<4294967296) (w:World) :
  Calls Tryz.prog 161 #[.int .i64 n] w fun e w'=>∃ v,e=.returned v∧FrW w w' v (Tl.lenB n):=by
 by_cases h0:n≤65530
 ·exact refLen_any n h0 w
 have lit:∀ l:List Nat,l.length≤1000→FrW w (w.alloc (.cells (cellsL l).toArray 5)) (.slice (some ⟨w.heap.size,0,none⟩) l.length l.length) l:=fun l hl=>by
  have h:=ownsRow_lit (alloc_at w (.cells (cellsL l).toArray 5)) (Nat.le_refl _) (by simp[cellsL];omega)
  have e:(cellsL l).toArray.size=l.length:=by simp[cellsL]
  rw[e] at h
  exact ⟨World.grownBy_alloc _ _ _,by simpa using h⟩
 have HL:=hid lit
 clear lit
 have d1:decide ((n:Int)<128)=false:=decide_eq_false (by omega)
 have d2:decide ((n:Int)<256)=false:=decide_eq_false (by omega)
 by_cases h3:n<65536
 ·have HX:=hid (lenB3 (n:=n) (by omega) h3)
  have d3:decide ((n:Int)<65536)=true:=decide_eq_true (by omega)
  have hq:n/256<256:=by omega
  have hq2:(n:Int)/256<256:=by omega
  clear hn h0
  go_enter Tryz.func161,Tryz.ntmps161
  go_wp2
  go_ret
  refine ⟨_,rfl,?_⟩
  rw[HX.out]
  have:=HL.out [130,n/256,n%256] (by simp)
  rw[show (cellsL [130,n/256,n%256]).toArray=#[Value.int IntKind.u8 130,Value.int IntKind.u8 ((n:Int)/256),Value.int IntKind.u8 ((n:Int)%256)] from by simp[cellsL]] at this
  exact this
 ·have d3:decide ((n:Int)<65536)=false:=decide_eq_false (by omega)
  by_cases h4:n<16777216
  ·have HX:=hid (lenB4 h3 h4)
   have d4:decide ((n:Int)<16777216)=true:=decide_eq_true (by omega)
   have hq:n/65536<256:=by omega
   have hq2:(n:Int)/65536<256:=by omega
   clear hn h0
   go_enter Tryz.func161,Tryz.ntmps161
   go_wp2
   go_ret
   refine ⟨_,rfl,?_⟩
   rw[HX.out]
   have:=HL.out [131,n/65536,n/256%256,n%256] (by simp)
   rw[show (cellsL [131,n/65536,n/256%256,n%256]).toArray=#[Value.int IntKind.u8 131,Value.int IntKind.u8 ((n:Int)/65536),Value.int IntKind.u8 ((n:Int)/256%256),Value.int IntKind.u8 ((n:Int)%256)] from by simp[cellsL]] at this
   exact this
  ·have HX:=hid (lenB5 h4 hn)
   have d4:decide ((n:Int)<16777216)=false:=decide_eq_false (by omega)
   have hq:n/16777216<256:=by omega
   have hq2:(n:Int)/16777216<256:=by omega
   clear h0
   go_enter Tryz.func161,Tryz.ntmps161
   go_wp2
   go_ret
   refine ⟨_,rfl,?_⟩
   rw[HX.out]
   have:=HL.out [132,n/16777216,n/65536%256,n/256%256,n%256] (by simp)
   rw[show (cellsL [132,n/16777216,n/65536%256,n/256%256,n%256]).toArray=#[Value.int IntKind.u8 132,Value.int IntKind.u8 ((n:Int)/16777216),Value.int IntKind.u8 ((n:Int)/65536%256),Value.int IntKind.u8 ((n:Int)/256%256),Value.int IntKind.u8 ((n:Int)%256)] from by simp[cellsL]] at this
   exact this
theorem or_sum (a x:Nat) (ha:a<1099511627776) (hx:x<256):bits .or .i64 ((a:Int)*256) (x:Int)=((256*a+x:Nat):Int):=by
 have e:(a:Int)*256=((256*a:Nat):Int):=by rw[Nat.mul_comm];simp
 rw[e]
 have hw:∀ n:Nat,n<9223372036854775808→(BitVec.ofInt 64 (n:Int)).toNat=n:=fun n hn=>by
  rw[BitVec.ofInt_natCast,BitVec.toNat_ofNat];exact Nat.mod_eq_of_lt (by omega)
 show IntKind.i64.wrap ((BitVec.ofInt 64 ((256*a:Nat):Int) ||| BitVec.ofInt 64 (x:Int)).toNat:Int)=_
 rw[BitVec.toNat_or,hw _ (by omega),hw _ (by omega)]
 have e2:256*a ||| x=256*a+x:=(Nat.two_pow_add_eq_or_of_lt (i:=8) (b:=x) (by omega) a).symm
 rw[e2]
 simp only[IntKind.wrap,IntKind.bits,IntKind.signed]
 simp
 omega
theorem num_take (l:List Nat) (k:Nat) (h:k<l.length):Tl.num (l.take (k+1))=256*Tl.num (l.take k)+l.getD k 0:=by
 rw[List.take_add_one,List.getElem?_eq_getElem h,Tl.num,List.foldl_append,←Tl.num]
 simp[List.getD_eq_getElem?_getD,List.getElem?_eq_getElem h]
theorem num_lt {l:List Nat} (hl:∀ x∈l,x<256):∀ k,k≤l.length→Tl.num (l.take k)<256 ^ k
 |0,_=>by simp[Tl.num]
 |k+1,h=>by
  have:=num_lt hl k (by omega)
  have hx:=getD_lt' hl k
  rw[num_take l k (by omega),Nat.pow_succ]
  omega
theorem number_any (v:Value) (l:List Nat) (w:World) (hB:Bytes w v l) (hl:l.length≤4) :
  Calls Tryz.prog 176 #[v] w fun e w'=>e=.returned (.int .i64 (Tl.num l:Nat))∧w'=w:=by
 obtain ⟨hlt,a,sb,so,c,rfl,hc,ha,hcell⟩:=hB
 obtain ⟨n,hn⟩:∃ n,n=l.length:=⟨_,rfl⟩
 rw[←hn] at hc ha hcell hl ⊢
 have Ha:=hid ha
 have Hcell:=hid hcell
 have Hlt:=hid hlt
 have HN:=hid hn
 clear ha hcell hlt hn
 go_enter Tryz.func176,Tryz.ntmps176
 go_wp2
 go_loopw [3,8] (fun x i wr=>∃ k:Nat,k≤n∧i=.int .i64 k∧x=.int .i64 (Tl.num (l.take k):Nat)∧wr=w) (fun _ i _=>n-(intOf i).toNat)
 case atStart=>exact ⟨0,Nat.zero_le _,rfl,rfl,rfl⟩
 case round =>
  obtain ⟨k,hk,rfl,rfl,rfl⟩:=hrel
  have hnum:=num_lt Hlt.out k (by rw[←HN.out];exact hk)
  have h4:256 ^ k≤4294967296:=Nat.pow_le_pow_right (n:=256) (by decide) (show k≤4 by omega)
  by_cases hkn:k<n
  ·obtain ⟨rfl,ha2⟩:=Ha.out (by omega)
   have hc1:=Hcell.out k hkn
   have hx:=getD_lt' Hlt.out k
   have HS:=hid (num_take l k (by rw[←HN.out];exact hkn))
   have hm:Tl.num (l.take k)<4294967296:=by omega
   clear hnum h4
   generalize l.getD k 0=x at *
   generalize Tl.num (l.take k)=m at *
   have hor:=or_sum m x (by omega) hx
   have HO:=hid hor
   clear hor
   go_wp2
   go_roundw
   case rel=>exact ⟨k+1,by omega,by go_num,by rw[HS.out,←HO.out],trivial⟩
   case measure=>simp[intOf];omega
  ·obtain rfl:k=n:=by omega
   have e:=hid (show l.take k=l from List.take_of_length_le (by rw[HN.out];exact Nat.le_refl _))
   clear hnum h4
   go_wp2
   go_ret
   exact ⟨by rw[e.out];rfl,rfl⟩
def RdPost (A:Nat→Addr) (v:Value) (l:List Nat) (r:Except Nat (Nat×Nat)) (e:Ending):Prop :=
 match r with
 |.error k=>e=.returned (.tuple #[.int .i64 0,.slice none 0 0,errV A k])
 |.ok (n,k)=>k≤l.length∧∃ a m c,m+k=l.length∧e=.returned (.tuple #[.int .i64 n,.slice a m c,.nilIface])∧(∀ W,Bytes W v l→Bytes W (.slice a m c) (l.drop k))∧Whole0 (.slice a m c)
theorem drew2 (w:World) (m n:Nat):(w.drewN m).drewN n=w.drewN (m+n):=by
 simp[World.drewN,Nat.add_assoc]
theorem drewE {w:World} {m n:Nat}:∃ k,(w.drewN m).drewN n=w.drewN k:=⟨_,drew2 w m n⟩
theorem rdLen_any (A:Nat→Addr) (v:Value) (l:List Nat) (w:World) (hB:Bytes w v l) (h0:Whole0 v) (hl:l.length≤4611686018427387904) (hE:AllErrs w A) :
  Calls Tryz.prog 146 #[v] w fun e w'=>RdPost A v l (Tl.rdLen l) e∧∃ m,w'=w.drewN m:=by
 have eS:=errs_at hE 2 (by decide)
 have eL:=errs_at hE 3 (by decide)
 have eF:=errs_at hE 4 (by decide)
 simp only[errVars,List.getD_cons_zero,List.getD_cons_succ,Nat.add_one_sub_one] at eS eL eF
 have HES:=hid eS
 have HEL:=hid eL
 have HEF:=hid eF
 have HR:Hid (∀ r e,Tl.rdLen l=r→RdPost A v l r e→RdPost A v l (Tl.rdLen l) e):=hid (fun r e h h2=>by rw[h];exact h2)
 obtain ⟨R,hR⟩:∃ R,R=RdPost A v l (Tl.rdLen l):=⟨_,rfl⟩
 rw[←hR] at HR ⊢
 clear hR eS eL eF
 have hB':=hB
 obtain ⟨hlt,a,sb,so,c,rfl,hc,ha,hcell⟩:=hB'
 match l,hB,h0,hl,hlt,hc,ha,hcell,HR with
 |[],hB,h0,hl,hlt,hc,ha,hcell,HR =>
  have HX:=hid (show Tl.rdLen []=.error 2 from rfl)
  have eS:=HES.out
  clear hB hlt ha hcell
  go_enter Tryz.func146,Tryz.ntmps146
  go_wp2
  go_quiet (fail)
  go_wp2
  go_ret3
  exact ⟨HR.out _ _ HX.out rfl,_,rfl⟩
 |x :: r,hB,h0,hl,hlt,hc,ha,hcell,HR =>
  obtain ⟨n,hn⟩:∃ n,n=r.length:=⟨_,rfl⟩
  have HN:=hid hn
  have hlen:(x :: r).length=n+1:=by rw[hn];rfl
  rw[hlen] at hB h0 hl hc ha HR ⊢
  obtain ⟨rfl,hsb⟩:=ha (by omega)
  have hx:=hlt x (by simp)
  have c0:=hcell 0 (by simp)
  simp only[List.getD_cons_zero,Nat.add_zero] at c0
  have B1:=hB.from 1 (by omega)
  have W1:=h0.from 1
  simp only[List.drop_succ_cons,List.drop_zero,Nat.add_one_sub_one] at B1 W1
  have HB1:=hid B1
  have HW1:=hid W1
  have HC0:=hid c0
  clear hB h0 hlt ha hcell hlen B1 W1 c0 hn
  by_cases h128:x<128
  ·have HX:Hid (Tl.rdLen (x :: r)=.ok (x,1)):=hid (by rw[Tl.rdLen,if_pos h128])
   have c0:=HC0.out
   go_enter Tryz.func146,Tryz.ntmps146
   go_wp2
   go_quiet (fail)
   go_wp2
   go_ret3
   exact ⟨HR.out _ _ HX.out ⟨by simp,_,_,_,by simp[HN.out],rfl,(fun W hW=>by simpa using hW.from 1 (by omega)),HW1.out⟩,_,rfl⟩
  ·obtain ⟨q,hxq⟩:∃ q,x=128+q:=⟨x-128,by omega⟩
   have e128:(x:Int)-128=(q:Int):=by omega
   have HXQ:=hid hxq
   clear hxq
   have c0:=HC0.out
   by_cases hq:q=0∨4<q
   ·have HX:Hid (Tl.rdLen (x :: r)=.error 4):=hid (by rw[Tl.rdLen,if_neg h128,if_pos (by have:=HXQ.out;omega)])
    have eF:=HEF.out
    rcases hq with rfl|hq
    ·go_enter Tryz.func146,Tryz.ntmps146
     go_wp2
     go_quiet (fail)
     go_wp2
     go_quiet (fail)
     go_wp2
     go_ret3
     exact ⟨HR.out _ _ HX.out rfl,drewE⟩
    ·have d1:((q:Int)==0)=false:=by simp;omega
     go_enter Tryz.func146,Tryz.ntmps146
     go_wp2
     go_quiet (fail)
     go_wp2
     go_quiet (fail)
     go_wp2
     go_ret3
     exact ⟨HR.out _ _ HX.out rfl,drewE⟩
   ·have d1:((q:Int)==0)=false:=by simp;omega
    by_cases hnq:n<q
    ·have HX:Hid (Tl.rdLen (x :: r)=.error 2):=hid (by rw[Tl.rdLen,if_neg h128,if_neg (by have:=HXQ.out;omega),if_pos (by rw[←HN.out];have:=HXQ.out;omega)])
     have eS:=HES.out
     go_enter Tryz.func146,Tryz.ntmps146
     go_wp2
     go_quiet (fail)
     go_wp2
     go_quiet (fail)
     go_wp2
     go_ret3
     exact ⟨HR.out _ _ HX.out rfl,drewE⟩
    ·obtain ⟨m,hm⟩:∃ m,m=Tl.num (r.take q):=⟨_,rfl⟩
     have hmlt:m<4294967296:=by
      have h1:=num_lt HB1.out.lt q (by rw[←HN.out];omega)
      have h4:256 ^ q≤4294967296:=Nat.pow_le_pow_right (n:=256) (by decide) (show q≤4 by omega)
      omega
     have HM:=hid hm
     have HMR:=hid (fun w=>more_any m hmlt w)
     have hmr4:=Tl.more_le m
     have HX0:Hid (Tl.rdLen (x :: r)=if Tl.more m≠q then .error 4 else if 65530<m then .error 3 else .ok (m,1+q)):=hid (by
      rw[Tl.rdLen,if_neg h128,if_neg (by have:=HXQ.out;omega),if_neg (by rw[←HN.out];have:=HXQ.out;omega),show x-128=q by have:=HXQ.out;omega,←hm])
     have hqn:q≤n:=by omega
     have HNU:Hid (∀ w',w.grownBy w' none→Calls Tryz.prog 176 #[.slice (subA (some ⟨sb,so,none⟩) 1 c) q (c-1)] w' fun e w''=>e=.returned (.int .i64 (m:Nat))∧w''=w'):=hid (fun w' hg=>by
      have:=number_any _ (r.take q) w' ((HB1.out.to q hqn).grown hg) (by rw[List.length_take];omega)
      rwa [←hm] at this)
     clear hm hmlt
     have hqc:q≤c-1:=by omega
     generalize hmo:Tl.more m=mo at *
     clear hmo
     by_cases hmo:mo=q
     ·subst hmo
      by_cases hbig:65530<m
      ·have HX:Hid (Tl.rdLen (x :: r)=.error 3):=hid (by rw[HX0.out,if_neg (by simp),if_pos hbig])
       have eL:=HEL.out
       go_enter Tryz.func146,Tryz.ntmps146
       go_wp2
       go_quiet (fail)
       go_wp2_with (first
        |(go_at_call 176;refine (HNU.out _ (grown_drewN (grown_refl _ _) _)).mono ?_;rintro e w2 ⟨rfl,rfl⟩)
        |(go_at_call 170;refine (HMR.out _).mono ?_;rintro e w2 ⟨rfl,rfl⟩))
       go_quiet (fail)
       go_wp2
       go_ret3
       exact ⟨HR.out _ _ HX.out rfl,drewE⟩
      ·have HX:Hid (Tl.rdLen (x :: r)=.ok (m,1+mo)):=hid (by rw[HX0.out,if_neg (by simp),if_neg hbig])
       go_enter Tryz.func146,Tryz.ntmps146
       go_wp2
       go_quiet (fail)
       go_wp2_with (first
        |(go_at_call 176;refine (HNU.out _ (grown_drewN (grown_refl _ _) _)).mono ?_;rintro e w2 ⟨rfl,rfl⟩)
        |(go_at_call 170;refine (HMR.out _).mono ?_;rintro e w2 ⟨rfl,rfl⟩))
       go_quiet (fail)
       go_wp2
       go_ret3
       refine ⟨HR.out _ _ HX.out ⟨by rw[List.length_cons,←HN.out];omega,_,_,_,?_,rfl,?_,HW1.out.from mo⟩,drewE⟩
       ·rw[List.length_cons,←HN.out];omega
       ·intro W hW
        have:=(hW.from 1 (by omega)).from mo (by omega)
        rwa [List.drop_drop,Nat.add_sub_cancel] at this
     ·have HX:Hid (Tl.rdLen (x :: r)=.error 4):=hid (by rw[HX0.out,if_pos hmo])
      have eF:=HEF.out
      have d2:((mo:Int) != (q:Int))=true:=by simp;omega
      go_enter Tryz.func146,Tryz.ntmps146
      go_wp2
      go_quiet (fail)
      go_wp2_with (first
       |(go_at_call 176;refine (HNU.out _ (grown_drewN (grown_refl _ _) _)).mono ?_;rintro e w2 ⟨rfl,rfl⟩)
       |(go_at_call 170;refine (HMR.out _).mono ?_;rintro e w2 ⟨rfl,rfl⟩))
      go_quiet (fail)
      go_wp2
      go_ret3
      exact ⟨HR.out _ _ HX.out rfl,drewE⟩
end Go.Proofs.YtjjbkpjjmbfdhaaGreatDoor
