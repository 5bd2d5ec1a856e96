import Derived.Test.YtjjbkpjjmbfdhaaGreatDoorZb01
import Derived.Test.YtjjbkpjjmbfdhaaGreatDoorZb07
import Derived.Test.YtjjbkpjjmbfdhaaGreatDoorChecked
import Derived.WalkKit
import Derived.Deep.QuietTactic
import Derived.BigQuiet
import Derived.Lib.Hide
import Derived.Lib.BitFns
import Derived.Laws.BitsAllLaws
set_option linter.unusedVariables false
set_option linter.unusedSimpArgs false
set_option maxRecDepth 100000
namespace Go.Proofs.YtjjbkpjjmbfdhaaGreatDoor.Tl
def made (t:Int):Bool:=decide (t=48)||decide (t=49)||(decide (160≤t)&&decide (t<176))
def known (t:Int):Bool:=made t||decide ((1≤t∧t≤6)∨t=10∨t=12∨t=24)
def more (n:Nat):Nat:=if n<128 then 0 else if n<256 then 1 else if n<65536 then 2 else if n<16777216 then 3 else 4
def be:Nat→Nat→List Nat
 |0,_=>[]
 |k+1,n=>(n/256 ^ k)%256 :: be k n
def num (l:List Nat):Nat:=l.foldl (fun a x=>256*a+x) 0
def lenB (n:Nat):List Nat:=if n<128 then [n] else (128+more n) :: be (more n) n
def size (n:Int):Nat:=if 0≤n∧n≤65530 then 2+more n.toNat+n.toNat else 0
def elem (t:Nat) (body:List Nat):List Nat:=t :: (lenB body.length++body)
def rdLen:List Nat→Except Nat (Nat×Nat)
 |[]=>.error 2
 |n :: b=>if n<128 then .ok (n,1) else if n=128∨132<n then .error 4 else if b.length<n-128 then .error 2 else
  if more (num (b.take (n-128)))≠n-128 then .error 4 else if 65530<num (b.take (n-128)) then .error 3 else .ok (num (b.take (n-128)),1+(n-128))
def first:List Nat→Except Nat (Nat×Nat×Nat)
 |[]=>.error 2
 |t :: r=>if known t=false then .error 5 else match rdLen r with
  |.error e=>.error e
  |.ok (n,k)=>if r.length-k<n then .error 2 else .ok (t,1+k,n)
def cmpB (a b:List Nat):Int:=Extern.BytealgCompare.cmp (strOf a) (strOf b)
def loop (rec:Nat→List Nat→Except Nat Nat) (one set:Bool):Nat→List Nat→List Nat→Nat→Except Nat Nat
 |0,_,_,d=>.ok d
 |f+1,b,ahead,d=>if b=[] then .ok d else match first b with
  |.error e=>.error e
  |.ok (t,i,n)=>if one then .error 6 else match rec t ((b.drop i).take n) with
   |.error e=>.error e
   |.ok m=>if set&&decide (cmpB (b.take (i+n)) ahead<0) then .error 7 else loop rec one set f (b.drop (i+n)) (b.take (i+n)) (max d m)
def within:Nat→Nat→List Nat→Except Nat Nat
 |0,_,_=>.error 6
 |left+1,t,body=>if made t then match loop (within left) (decide (left=0)) (decide (t=49)) body.length body [] 0 with
   |.error e=>.error e
   |.ok d=>.ok (1+d)
  else .ok 1
def levels (b:List Nat):Except Nat Nat:=if 65536<b.length then .error 3 else match first b with
 |.error e=>.error e
 |.ok (t,i,n)=>if i+n<b.length then .error 4 else within 16 t ((b.drop i).take n)
theorem made_nat (t:Int) (h:made t=true):48≤t∧t<176:=by
 simp only[made,Bool.or_eq_true,Bool.and_eq_true,decide_eq_true_eq] at h
 omega
theorem known_nat (t:Int) (h:known t=true):1≤t∧t<176:=by
 simp only[known,Bool.or_eq_true,decide_eq_true_eq] at h
 rcases h with h|h
 ·have:=made_nat t h;omega
 ·omega
theorem be_len:∀ k n,(be k n).length=k
 |0,_=>rfl
 |k+1,n=>by rw[be,List.length_cons,be_len k n]
theorem be_lt:∀ k n,∀ x∈be k n,x<256
 |0,_=>by simp[be]
 |k+1,n=>by
  intro x hx
  rw[be,List.mem_cons] at hx
  rcases hx with rfl|hx
  ·exact Nat.mod_lt _ (by decide)
  ·exact be_lt k n x hx
theorem foldl_be:∀ k n a,(be k n).foldl (fun a x=>256*a+x) a=a*256 ^ k+n%256 ^ k
 |0,n,a=>by simp[be,Nat.mod_one]
 |k+1,n,a=>by
  rw[be,List.foldl_cons,foldl_be k n]
  rw[Nat.pow_succ,Nat.mod_mul,Nat.add_mul,Nat.mul_comm 256 a,Nat.mul_assoc a 256,Nat.mul_comm 256 (256 ^ k),Nat.mul_comm (n/256 ^ k%256)]
  omega
theorem num_be (k n:Nat) (h:n<256 ^ k):num (be k n)=n:=by
 rw[num,foldl_be,Nat.mod_eq_of_lt h];omega
theorem more_pow (n:Nat) (h:n<4294967296):n<256 ^ more n∨n<128:=by
 unfold more
 repeat' split
 all_goals (first|(right;omega)|(left;omega))
theorem more_le (n:Nat):more n≤4:=by
 unfold more
 repeat' split
 all_goals omega
theorem more_pos {n:Nat} (h:¬ n<128):1≤more n:=by
 unfold more
 repeat' split
 all_goals omega
theorem lenB_len (n:Nat):(lenB n).length=1+more n:=by
 unfold lenB
 split
 ·rename_i h;simp[more,h]
 ·rw[List.length_cons,be_len];omega
theorem lenB_lt (n:Nat):∀ x∈lenB n,x<256:=by
 intro x hx
 unfold lenB at hx
 split at hx
 ·simp at hx;omega
 ·rw[List.mem_cons] at hx
  rcases hx with rfl|hx
  ·have:=more_le n;omega
  ·exact be_lt _ _ x hx
theorem rdLen_ok (n:Nat) (h:n≤65530) (r:List Nat):rdLen (lenB n++r)=.ok (n,1+more n):=by
 unfold lenB
 split
 ·rename_i h1;simp[rdLen,h1,more]
 ·rename_i h1
  have h4:=more_le n
  have hp:=more_pos h1
  have hn:num (be (more n) n)=n:=num_be _ _ (by have:=more_pow n (by omega);omega)
  have ht:(be (more n) n++r).take (more n)=be (more n) n:=List.take_left' (be_len _ _)
  have hl:=be_len (more n) n
  rw[List.cons_append,rdLen,if_neg (by omega),if_neg (by omega),if_neg (by rw[List.length_append,hl];omega),show 128+more n-128=more n by omega,ht,hn,if_neg (by simp),if_neg (by omega)]
theorem elem_len (t:Nat) (body:List Nat):(elem t body).length=2+more body.length+body.length:=by
 rw[elem,List.length_cons,List.length_append,lenB_len];omega
theorem elem_lt {t:Nat} {body:List Nat} (ht:t<256) (hb:∀ x∈body,x<256):∀ x∈elem t body,x<256:=by
 intro x hx
 rw[elem,List.mem_cons,List.mem_append] at hx
 rcases hx with rfl|hx|hx
 ·exact ht
 ·exact lenB_lt _ x hx
 ·exact hb x hx
theorem first_ok (t:Nat) (body r:List Nat) (ht:known t=true) (h:body.length≤65530):first (elem t body++r)=.ok (t,2+more body.length,body.length):=by
 rw[elem,List.cons_append,List.append_assoc,first,if_neg (by rw[ht];simp),rdLen_ok _ h]
 show (if _ then _ else _)=_
 rw[if_neg (by rw[List.length_append,lenB_len,List.length_append];omega)]
 rw[show 1+(1+more body.length)=2+more body.length by omega]
theorem elem_drop (t:Nat) (body r:List Nat):(elem t body++r).drop (2+more body.length)=body++r:=by
 rw[elem,show 2+more body.length=(1+more body.length)+1 by omega,List.cons_append,List.drop_succ_cons,List.append_assoc,List.drop_left' (lenB_len _)]
theorem elem_body (t:Nat) (body r:List Nat):((elem t body++r).drop (2+more body.length)).take body.length=body:=by
 rw[elem_drop,List.take_left' rfl]
theorem elem_rest (t:Nat) (body r:List Nat):(elem t body++r).drop (2+more body.length+body.length)=r:=by
 rw[←List.drop_drop,elem_drop,List.drop_left' rfl]
theorem rdLen_one {l:List Nat} {n k:Nat} (h:rdLen l=.ok (n,k)):1≤k:=by
 match l,h with
 |x :: r,h =>
  have ok_k:∀ {a b c d:Nat},(Except.ok (a,b):Except Nat (Nat×Nat))=.ok (c,d)→b=d:=fun e=>(Prod.mk.inj (Except.ok.inj e)).2
  rw[rdLen] at h
  by_cases h1:x<128
  ·rw[if_pos h1] at h;have:=ok_k h;omega
  ·rw[if_neg h1] at h
   by_cases h2:x=128∨132<x
   ·rw[if_pos h2] at h;cases h
   ·rw[if_neg h2] at h
    by_cases h3:r.length<x-128
    ·rw[if_pos h3] at h;cases h
    ·rw[if_neg h3] at h
     by_cases h4:more (num (r.take (x-128)))≠x-128
     ·rw[if_pos h4] at h;cases h
     ·rw[if_neg h4] at h
      by_cases h5:65530<num (r.take (x-128))
      ·rw[if_pos h5] at h;cases h
      ·rw[if_neg h5] at h;have:=ok_k h;omega
theorem first_two {l:List Nat} {t i n:Nat} (h:first l=.ok (t,i,n)):2≤i:=by
 match l,h with
 |x :: r,h =>
  rw[first] at h
  split at h
  ·cases h
  ·split at h
   ·cases h
   ·rename_i hr
    have:=rdLen_one hr
    split at h
    ·cases h
    ·cases h;omega
end Go.Proofs.YtjjbkpjjmbfdhaaGreatDoor.Tl
namespace Go.Proofs.YtjjbkpjjmbfdhaaGreatDoor
open Lib (hid)
open Go.RowKit
theorem ret_boolT {a b:Bool} (h:a=b):Ending.returned (.bool a)=.returned (.bool b):=by rw[h]
theorem ctx_any (t:Int) (w:World) :
  Calls Tryz.prog 101 #[.int .i64 t] w fun e w'=>e=.returned (.bool (decide (160≤t)&&decide (t<176)))∧w'=w:=by
 go_enter Tryz.func101,Tryz.ntmps101
 go_wp2
 all_goals (go_ret;exact ⟨ret_boolT (by rw[Bool.eq_iff_iff];simp <;> omega),rfl⟩)
theorem made_any (t:Int) (w:World) :
  Calls Tryz.prog 55 #[.int .i64 t] w fun e w'=>e=.returned (.bool (Tl.made t))∧w'=w:=by
 go_enter Tryz.func55,Tryz.ntmps55
 go_wp2_with (go_at_call 101;refine (ctx_any t _).mono ?_;rintro e w2 ⟨rfl,rfl⟩)
 all_goals (go_ret;exact ⟨ret_boolT (by rw[Bool.eq_iff_iff];simp[Tl.made] <;> omega),rfl⟩)
theorem known_any (t:Int) (w:World) :
  Calls Tryz.prog 134 #[.int .i64 t] w fun e w'=>e=.returned (.bool (Tl.known t))∧w'=w:=by
 have HM:=hid (made_any t w)
 have HK:Hid (Tl.made t=true→Tl.known t=true):=hid (fun h=>by rw[Tl.known,h];rfl)
 go_enter Tryz.func134,Tryz.ntmps134
 generalize hm:Tl.made t=m at *
 have Hm:=hid hm
 clear hm
 go_wp2_with (go_at_call 55;refine HM.out.mono ?_;rintro e w2 ⟨rfl,rfl⟩)
 all_goals (go_ret;refine ⟨ret_boolT ?_,rfl⟩;unfold Tl.known;rw[Hm.out,Bool.eq_iff_iff];simp only[beq_iff_eq,beq_eq_false_iff_ne] at *;simp <;> omega)
theorem bitLen_pos8:∀ n:Fin 256,1≤n.val→1≤Lib.bitLen n.val:=by decide +kernel
theorem bitLen_128:∀ n:Fin 256,128≤n.val→Lib.bitLen n.val=8:=by decide +kernel
theorem more_bits (n:Nat) (h:128≤n) (hn:n<4294967296):((Lib.bitLen n:Int)+7)/8=(Tl.more n:Nat):=by
 unfold Tl.more
 rw[if_neg (by omega)]
 split
 ·have:=bitLen_128 ⟨n,by omega⟩ h
  simp only at this
  omega
 ·split
  ·have s:=Lib.bitLen_shift8 n (by omega) (by omega)
   have a:=bitLen_pos8 ⟨n/256,by omega⟩ (by show 1≤n/256;omega)
   have b:=Lib.bitLen_le8 ⟨n/256,by omega⟩
   simp only at a b
   omega
  ·split
   ·have s:=Lib.bitLen_shift16 n (by omega) (by omega)
    have a:=bitLen_pos8 ⟨n/65536,by omega⟩ (by show 1≤n/65536;omega)
    have b:=Lib.bitLen_le8 ⟨n/65536,by omega⟩
    simp only at a b
    omega
   ·have s:=Lib.bitLen_shift24 n (by omega) (by omega)
    have a:=bitLen_pos8 ⟨n/16777216,by omega⟩ (by show 1≤n/16777216;omega)
    have b:=Lib.bitLen_le8 ⟨n/16777216,by omega⟩
    simp only at a b
    omega
theorem more_any (n:Nat) (hn:n<4294967296) (w:World) :
  Calls Tryz.prog 170 #[.int .i64 n] w fun e w'=>e=.returned (.int .i64 (Tl.more n:Nat))∧w'=w:=by
 have HL:=hid (blen_any n hn w)
 have HB:Hid (128≤n→((Lib.bitLen n:Int)+7)/8=(Tl.more n:Nat)):=hid (fun h=>more_bits n h hn)
 have hle:Lib.bitLen n≤64:=Lib.bitLen_le n 64 (by decide) (by omega)
 have HZ:Hid (n<128→Tl.more n=0):=hid (fun h=>by unfold Tl.more;rw[if_pos h])
 generalize Lib.bitLen n=b at *
 generalize Tl.more n=m at *
 go_enter Tryz.func170,Tryz.ntmps170
 go_wp2_with (go_at_call 119;refine HL.out.mono ?_;rintro e w' ⟨rfl,rfl⟩)
 ·go_ret
  exact ⟨congrArg Ending.returned (congrArg (Value.int IntKind.i64) (by rw[HZ.out (by omega)];rfl)),rfl⟩
 ·go_ret
  exact ⟨congrArg Ending.returned (congrArg (Value.int IntKind.i64) (HB.out (by omega))),rfl⟩
theorem size_anyT (n:Int) (w:World) :
  Calls Tryz.prog 135 #[.int .i64 n] w fun e w'=>e=.returned (.int .i64 (Tl.size n:Nat))∧w'=w:=by
 by_cases h:0≤n∧n≤65530
 ·obtain ⟨k,rfl⟩:∃ k:Nat,n=k:=⟨n.toNat,by omega⟩
  have HM:=hid (more_any k (by omega) w)
  have hm4:=Tl.more_le k
  have HS:Hid (Tl.size (k:Int)=2+Tl.more k+k):=hid (by rw[Tl.size,if_pos h,Int.toNat_natCast])
  obtain ⟨h1,h2⟩:=h
  have d1:((k:Int)<0)=False:=by simp
  generalize Tl.more k=m at *
  go_enter Tryz.func135,Tryz.ntmps135
  go_wp2_with (go_at_call 170;refine HM.out.mono ?_;rintro e w' ⟨rfl,rfl⟩)
  all_goals (go_ret;exact ⟨congrArg Ending.returned (congrArg (Value.int IntKind.i64) (by rw[HS.out];go_num)),rfl⟩)
 ·have HS:Hid (Tl.size n=0):=hid (by rw[Tl.size,if_neg h])
  go_enter Tryz.func135,Tryz.ntmps135
  go_wp2_with (fail)
  all_goals first
   |(go_ret;exact ⟨congrArg Ending.returned (congrArg (Value.int IntKind.i64) (by rw[HS.out];rfl)),rfl⟩)
   |(exfalso;omega)
end Go.Proofs.YtjjbkpjjmbfdhaaGreatDoor
