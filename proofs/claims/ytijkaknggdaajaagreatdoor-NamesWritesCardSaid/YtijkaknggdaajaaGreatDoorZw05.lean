import Derived.Test.YtijkaknggdaajaaGreatDoorZw01
import Derived.Test.YtijkaknggdaajaaGreatDoorZw04
import Derived.Shelf.Strconv.Atoi
import Derived.Shelf.Strconv.Itoa3
import Derived.Shelf.Strconv.ErrVar
import Derived.Lib.AtoiBound
set_option linter.unusedVariables false
set_option linter.unusedSimpArgs false
set_option maxRecDepth 100000
namespace Go.Proofs.YtijkaknggdaajaaGreatDoor.Tl
def made (t:Int):Bool:=decide (t=48)||decide (t=49)||(decide (160<=t)&&decide (t<176))
def known (t:Int):Bool:=made t||decide ((1<=t/\t<=6)∨t=10∨t=12∨t=24)
def more (n:Nat):Nat:=if n<128 then 0 else if n<256 then 1 else if n<65536 then 2 else if n<16777216 then 3 else 4
def be:Nat->Nat->List Nat
 |0,_=>[]
 |k+1,n=>(n/256 ^ k)%256 :: be k n
def num (l:List Nat):Nat:=l.foldl (fun a x=>256*a+x) 0
def lenB (n:Nat):List Nat:=if n<128 then [n]else(128+more n) :: be (more n) n
def size (n:Int):Nat:=if 0<=n/\n<=65530 then 2+more n.toNat+n.toNat else 0
def elem (t:Nat) (body:List Nat):List Nat:=t ::(lenB body.length++body)
def rdLen:List Nat->Except Nat (Nat×Nat)
 |[]=>.error 2
 |n :: b=>if n<128 then .ok (n,1)else if n=128∨132<n then .error 4 else if b.length<n-128 then .error 2 else
  if more (num (b.take (n-128)))≠n-128 then .error 4 else if 65530<num (b.take (n-128))then .error 3 else .ok (num (b.take (n-128)),1+(n-128))
def first:List Nat->Except Nat (Nat×Nat×Nat)
 |[]=>.error 2
 |t :: r=>if known t=false then .error 5 else match rdLen r with
  |.error e=>.error e
  |.ok (n,k)=>if r.length-k<n then .error 2 else .ok (t,1+k,n)
def cmpB (a b:List Nat):Int:=Extern.BytealgCompare.cmp (strOf a) (strOf b)
def loop (rec:Nat->List Nat->Except Nat Nat) (one set:Bool):Nat->List Nat->List Nat->Nat->Except Nat Nat
 |0,_,_,d=>.ok d
 |f+1,b,ahead,d=>if b=[]then .ok d else match first b with
  |.error e=>.error e
  |.ok (t,i,n)=>if one then .error 6 else match rec t ((b.drop i).take n)with
   |.error e=>.error e
   |.ok m=>if set&&decide (cmpB (b.take (i+n)) ahead<0)then .error 7 else loop rec one set f (b.drop (i+n)) (b.take (i+n)) (max d m)
def within:Nat->Nat->List Nat->Except Nat Nat
 |0,_,_=>.error 6
 |left+1,t,body=>if made t then match loop (within left) (decide (left=0)) (decide (t=49)) body.length body [] 0 with
   |.error e=>.error e
   |.ok d=>.ok (1+d)
  else .ok 1
def levels (b:List Nat):Except Nat Nat:=if 65536<b.length then .error 3 else match first b with
 |.error e=>.error e
 |.ok (t,i,n)=>if i+n<b.length then .error 4 else within 16 t ((b.drop i).take n)
theorem made_nat (t:Int) (h:made t=true):48<=t/\t<176:=by
 simp only[made,Bool.or_eq_true,Bool.and_eq_true,decide_eq_true_eq]at h;omega
theorem known_nat (t:Int) (h:known t=true):1<=t/\t<176:=by
 simp only[known,Bool.or_eq_true,decide_eq_true_eq]at h;rcases h with h|h
 ·have:=made_nat t h;omega
 ·omega
theorem be_len:∀ k n,(be k n).length=k
 |0,_=>rfl
 |k+1,n=>by rw[be,List.length_cons,be_len k n]
theorem be_lt:∀ k n,∀ x∈be k n,x<256
 |0,_=>by simp[be]
 |k+1,n=>by
  intro x hx;rw[be,List.mem_cons]at hx;rcases hx with rfl|hx
  ·exact Nat.mod_lt _ (by decide)
  ·exact be_lt k n x hx
theorem foldl_be:∀ k n a,(be k n).foldl (fun a x=>256*a+x) a=a*256 ^ k+n%256 ^ k
 |0,n,a=>by simp[be,Nat.mod_one]
 |k+1,n,a=>by
  rw[be,List.foldl_cons,foldl_be k n];rw[Nat.pow_succ,Nat.mod_mul,Nat.add_mul,Nat.mul_comm 256 a,Nat.mul_assoc a 256,Nat.mul_comm 256 (256 ^ k),Nat.mul_comm (n/256 ^ k%256)];omega
theorem num_be (k n:Nat) (h:n<256 ^ k):num (be k n)=n:=by
 rw[num,foldl_be,Nat.mod_eq_of_lt h];omega
theorem zKh (n:Nat) (h:n<4294967296):n<256 ^ more n∨n<128:=by
 unfold more
 repeat' split
 all_goals (first|(right;omega)|(left;omega))
theorem more_le (n:Nat):more n<=4:=by
 unfold more
 repeat' split
 all_goals omega
theorem zKi {n:Nat} (h:¬ n<128):1<=more n:=by
 unfold more
 repeat' split
 all_goals omega
theorem lenB_len (n:Nat):(lenB n).length=1+more n:=by
 unfold lenB;split
 ·rename_i h;simp[more,h]
 ·rw[List.length_cons,be_len];omega
theorem lenB_lt (n:Nat):∀ x∈lenB n,x<256:=by
 intro x hx;unfold lenB at hx;split at hx
 ·simp at hx;omega
 ·rw[List.mem_cons]at hx;rcases hx with rfl|hx
  ·have:=more_le n;omega
  ·exact be_lt _ _ x hx
theorem zJ6 (n:Nat) (h:n<=65530) (r:List Nat):rdLen (lenB n++r)=.ok (n,1+more n):=by
 unfold lenB;split
 ·rename_i h1;simp[rdLen,h1,more]
 ·rename_i h1
  have h4:=more_le n;have hp:=zKi h1;have hn:num (be (more n) n)=n:=num_be _ _ (by have:=zKh n (by omega);omega);have ht:(be (more n) n++r).take (more n)=be (more n) n:=List.take_left' (be_len _ _);have hl:=be_len (more n) n;rw[List.cons_append,rdLen,if_neg (by omega),if_neg (by omega),if_neg (by rw[List.length_append,hl];omega),show 128+more n-128=more n by omega,ht,hn,if_neg (by simp),if_neg (by omega)]
theorem elem_len (t:Nat) (body:List Nat):(elem t body).length=2+more body.length+body.length:=by
 rw[elem,List.length_cons,List.length_append,lenB_len];omega
theorem elem_lt {t:Nat} {body:List Nat} (ht:t<256) (hb:∀ x∈body,x<256):∀ x∈elem t body,x<256:=by
 intro x hx;rw[elem,List.mem_cons,List.mem_append]at hx;rcases hx with rfl|hx|hx
 ·exact ht
 ·exact lenB_lt _ x hx
 ·exact hb x hx
theorem first_ok (t:Nat) (body r:List Nat) (ht:known t=true) (h:body.length<=65530):first (elem t body++r)=.ok (t,2+more body.length,body.length):=by
 rw[elem,List.cons_append,List.append_assoc,first,if_neg (by rw[ht];simp),zJ6 _ h]
 show(if _ then _ else _)=_
 rw[if_neg (by rw[List.length_append,lenB_len,List.length_append];omega)];rw[show 1+(1+more body.length)=2+more body.length by omega]
theorem zFp (t:Nat) (body r:List Nat):(elem t body++r).drop (2+more body.length)=body++r:=by
 rw[elem,show 2+more body.length=(1+more body.length)+1 by omega,List.cons_append,List.drop_succ_cons,List.append_assoc,List.drop_left' (lenB_len _)]
theorem elem_body (t:Nat) (body r:List Nat):((elem t body++r).drop (2+more body.length)).take body.length=body:=by
 rw[zFp,List.take_left' rfl]
theorem elem_rest (t:Nat) (body r:List Nat):(elem t body++r).drop (2+more body.length+body.length)=r:=by
 rw[<-List.drop_drop,zFp,List.drop_left' rfl]
theorem zIH {l:List Nat} {n k:Nat} (h:rdLen l=.ok (n,k)):1<=k:=by
 match l,h with
 |x :: r,h =>
  have ok_k:∀ {a b c d:Nat},(Except.ok (a,b):Except Nat (Nat×Nat))=.ok (c,d)->b=d:=fun e=>(Prod.mk.inj (Except.ok.inj e)).2
  rw[rdLen]at h;by_cases h1:x<128
  ·rw[if_pos h1]at h;have:=ok_k h;omega
  ·rw[if_neg h1]at h;by_cases h2:x=128∨132<x
   ·rw[if_pos h2]at h;cases h
   ·rw[if_neg h2]at h;by_cases h3:r.length<x-128
    ·rw[if_pos h3]at h;cases h
    ·rw[if_neg h3]at h;by_cases h4:more (num (r.take (x-128)))≠x-128
     ·rw[if_pos h4]at h;cases h
     ·rw[if_neg h4]at h;by_cases h5:65530<num (r.take (x-128))
      ·rw[if_pos h5]at h;cases h
      ·rw[if_neg h5]at h;have:=ok_k h;omega
theorem first_two {l:List Nat} {t i n:Nat} (h:first l=.ok (t,i,n)):2<=i:=by
 match l,h with
 |x :: r,h =>
  rw[first]at h;split at h
  ·cases h
  ·split at h
   ·cases h
   ·rename_i hr
    have:=zIH hr;split at h
    ·cases h
    ·cases h;omega
end Go.Proofs.YtijkaknggdaajaaGreatDoor.Tl
namespace Go.Proofs.YtijkaknggdaajaaGreatDoor
open Go.Proofs.Tryz
open Lib (hid)
open Go.RowKit
theorem zBG {a b:Bool} (h:a=b):Ending.returned (.bool a)=.returned (.bool b):=by rw[h]
theorem zLU (t:Int) (w:World) :
  Calls prog 90 #[.int .i64 t] w fun e w'=>e=.returned (.bool (decide (160<=t)&&decide (t<176)))/\w'=w:=by
 go_enter func90,ntmps90
 go_wp2
 all_goals (go_ret;exact⟨zBG (by rw[Bool.eq_iff_iff];simp <;> omega),rfl⟩)
theorem zDf (t:Int) (w:World) :
  Calls prog 53 #[.int .i64 t] w fun e w'=>e=.returned (.bool (Tl.made t))/\w'=w:=by
 go_enter func53,ntmps53
 go_wp2_with (go_at_call 90;refine(zLU t _).mono ?_;rintro e w2 ⟨rfl,rfl⟩)
 all_goals (go_ret;exact⟨zBG (by rw[Bool.eq_iff_iff];simp[Tl.made] <;> omega),rfl⟩)
theorem zFj (t:Int) (w:World) :
  Calls prog 141 #[.int .i64 t] w fun e w'=>e=.returned (.bool (Tl.known t))/\w'=w:=by
 have HM:=hid (zDf t w);have HK:Hid (Tl.made t=true->Tl.known t=true):=hid (fun h=>by rw[Tl.known,h];rfl);go_enter func141,ntmps141
 generalize hm:Tl.made t=m at *;have Hm:=hid hm;clear hm;go_wp2_with (go_at_call 53;refine HM.out.mono ?_;rintro e w2 ⟨rfl,rfl⟩)
 all_goals (go_ret;refine⟨zBG ?_,rfl⟩;unfold Tl.known;rw[Hm.out,Bool.eq_iff_iff];simp only[beq_iff_eq,beq_eq_false_iff_ne]at *;simp <;> omega)
theorem zCj:∀ n:Fin 256,1<=n.val->1<=Lib.bitLen n.val:=by decide +kernel
theorem zHZ:∀ n:Fin 256,128<=n.val->Lib.bitLen n.val=8:=by decide +kernel
theorem zI8 (n:Nat) (h:128<=n) (hn:n<4294967296):((Lib.bitLen n:Int)+7)/8=(Tl.more n:Nat):=by
 unfold Tl.more;rw[if_neg (by omega)];split
 ·have:=zHZ ⟨n,by omega⟩ h;simp only at this;omega
 ·split
  ·have s:=Lib.bitLen_shift8 n (by omega) (by omega);have a:=zCj ⟨n/256,by omega⟩ (by show 1<=n/256;omega);have b:=Lib.bitLen_le8 ⟨n/256,by omega⟩;simp only at a b;omega
  ·split
   ·have s:=Lib.bitLen_shift16 n (by omega) (by omega);have a:=zCj ⟨n/65536,by omega⟩ (by show 1<=n/65536;omega);have b:=Lib.bitLen_le8 ⟨n/65536,by omega⟩;simp only at a b;omega
   ·have s:=Lib.bitLen_shift24 n (by omega) (by omega);have a:=zCj ⟨n/16777216,by omega⟩ (by show 1<=n/16777216;omega);have b:=Lib.bitLen_le8 ⟨n/16777216,by omega⟩;simp only at a b;omega
theorem zEp (n:Nat) (hn:n<4294967296) (w:World) :
  Calls prog 165 #[.int .i64 n] w fun e w'=>e=.returned (.int .i64 (Tl.more n:Nat))/\w'=w:=by
 have HL:=hid (zKD n hn w);have HB:Hid (128<=n->((Lib.bitLen n:Int)+7)/8=(Tl.more n:Nat)):=hid (fun h=>zI8 n h hn);have hle:Lib.bitLen n<=64:=Lib.bitLen_le n 64 (by decide) (by omega);have HZ:Hid (n<128->Tl.more n=0):=hid (fun h=>by unfold Tl.more;rw[if_pos h]);generalize Lib.bitLen n=b at *;generalize Tl.more n=m at *;go_enter func165,ntmps165
 go_wp2_with (go_at_call 144;refine HL.out.mono ?_;rintro e w' ⟨rfl,rfl⟩)
 ·go_ret
  exact⟨congrArg Ending.returned (congrArg (Value.int IntKind.i64) (by rw[HZ.out (by omega)];rfl)),rfl⟩
 ·go_ret
  exact⟨congrArg Ending.returned (congrArg (Value.int IntKind.i64) (HB.out (by omega))),rfl⟩
theorem zIm (n:Int) (w:World) :
  Calls prog 142 #[.int .i64 n] w fun e w'=>e=.returned (.int .i64 (Tl.size n:Nat))/\w'=w:=by
 by_cases h:0<=n/\n<=65530
 ·obtain⟨k,rfl⟩:∃ k:Nat,n=k:=⟨n.toNat,by omega⟩
  have HM:=hid (zEp k (by omega) w);have hm4:=Tl.more_le k;have HS:Hid (Tl.size (k:Int)=2+Tl.more k+k):=hid (by rw[Tl.size,if_pos h,Int.toNat_natCast]);obtain⟨h1,h2⟩:=h;have d1:((k:Int)<0)=False:=by simp
  generalize Tl.more k=m at *;go_enter func142,ntmps142
  go_wp2_with (go_at_call 165;refine HM.out.mono ?_;rintro e w' ⟨rfl,rfl⟩)
  all_goals (go_ret;exact⟨congrArg Ending.returned (congrArg (Value.int IntKind.i64) (by rw[HS.out];go_num)),rfl⟩)
 ·have HS:Hid (Tl.size n=0):=hid (by rw[Tl.size,if_neg h]);go_enter func142,ntmps142
  go_wp2_with (fail)
  all_goals first
   |(go_ret;exact⟨congrArg Ending.returned (congrArg (Value.int IntKind.i64) (by rw[HS.out];rfl)),rfl⟩)
   |(exfalso;omega)
end Go.Proofs.YtijkaknggdaajaaGreatDoor
namespace Go.Proofs
open Go.Shelf
def Tryz.lays172_ren:Go.Shelf.Ren:=⟨fun|172=>212|244=>218|245=>219|247=>224|279=>225|280=>226|281=>227|282=>228|287=>233|316=>234|171=>194|205=>235|321=>238|322=>239|243=>206|246=>214|283=>220|284=>221|285=>222|286=>223|129=>167|317=>229|318=>230|319=>231|320=>232|337=>236|338=>237|n=>n,fun|9=>9|3=>3|75=>28|76=>167|4=>4|5=>5|167=>267|37=>33|0=>0|85=>268|2=>2|168=>270|53=>189|175=>276|46=>190|210=>279|127=>254|145=>284|143=>282|21=>21|171=>263|173=>265|212=>274|51=>216|20=>20|213=>275|232=>285|233=>286|80=>135|n=>n,fun|15=>33|16=>34|17=>32|18=>35|19=>36|n=>n⟩
theorem Tryz.lays172:Go.Proofs.Lays.n172 prog Tryz.lays172_ren:={
 mixed:=by kernel_rfl
 f129:=func167.trans (congrArg some (by kernel_rfl))
 f171:=func194.trans (congrArg some (by kernel_rfl))
 f172:=func212.trans (congrArg some (by kernel_rfl))
 f205:=func235.trans (congrArg some (by kernel_rfl))
 f243:=func206.trans (congrArg some (by kernel_rfl))
 f244:=func218.trans (congrArg some (by kernel_rfl))
 f245:=func219.trans (congrArg some (by kernel_rfl))
 f246:=func214.trans (congrArg some (by kernel_rfl))
 f247:=func224.trans (congrArg some (by kernel_rfl))
 f279:=func225.trans (congrArg some (by kernel_rfl))
 f280:=func226.trans (congrArg some (by kernel_rfl))
 f281:=func227.trans (congrArg some (by kernel_rfl))
 f282:=func228.trans (congrArg some (by kernel_rfl))
 f283:=func220.trans (congrArg some (by kernel_rfl))
 f284:=func221.trans (congrArg some (by kernel_rfl))
 f285:=func222.trans (congrArg some (by kernel_rfl))
 f286:=func223.trans (congrArg some (by kernel_rfl))
 f287:=func233.trans (congrArg some (by kernel_rfl))
 f316:=func234.trans (congrArg some (by kernel_rfl))
 f317:=func229.trans (congrArg some (by kernel_rfl))
 f318:=func230.trans (congrArg some (by kernel_rfl))
 f319:=func231.trans (congrArg some (by kernel_rfl))
 f320:=func232.trans (congrArg some (by kernel_rfl))
 f321:=func238.trans (congrArg some (by kernel_rfl))
 f322:=func239.trans (congrArg some (by kernel_rfl))
 f337:=func236.trans (congrArg some (by kernel_rfl))
 f338:=func237.trans (congrArg some (by kernel_rfl))
 t0:=underlying0
 a0:=isAgg0
 z0:=sizeOf0
 v0:=zeroValue0
 t2:=underlying2
 a2:=isAgg2
 z2:=sizeOf2
 v2:=zeroValue2
 t3:=underlying3
 a3:=isAgg3
 z3:=sizeOf3
 v3:=zeroValue3
 t4:=underlying4
 a4:=isAgg4
 z4:=sizeOf4
 v4:=zeroValue4
 t5:=underlying5
 a5:=isAgg5
 z5:=sizeOf5
 v5:=zeroValue5
 t9:=underlying9
 a9:=isAgg9
 z9:=sizeOf9
 v9:=zeroValue9
 t20:=underlying20
 a20:=isAgg20
 z20:=sizeOf20
 v20:=zeroValue20
 t21:=underlying21
 a21:=isAgg21
 z21:=sizeOf21
 v21:=zeroValue21
 t37:=underlying33
 a37:=isAgg33
 z37:=sizeOf33
 v37:=zeroValue33
 t46:=underlying190
 a46:=isAgg190
 z46:=sizeOf190
 v46:=zeroValue190
 t51:=underlying216
 a51:=isAgg216
 z51:=sizeOf216
 v51:=zeroValue216
 t53:=underlying189
 a53:=isAgg189
 z53:=sizeOf189
 v53:=zeroValue189
 t75:=underlying28
 a75:=isAgg28
 z75:=sizeOf28
 v75:=zeroValue28
 t76:=underlying167
 a76:=isAgg167
 z76:=sizeOf167
 v76:=zeroValue167
 t85:=underlying268
 a85:=isAgg268
 z85:=sizeOf268
 v85:=zeroValue268
 t127:=underlying254
 a127:=isAgg254
 z127:=sizeOf254
 v127:=zeroValue254
 t143:=underlying282
 a143:=isAgg282
 z143:=sizeOf282
 v143:=zeroValue282
 t145:=underlying284
 a145:=isAgg284
 z145:=sizeOf284
 v145:=zeroValue284
 t167:=underlying267
 a167:=isAgg267
 z167:=sizeOf267
 v167:=zeroValue267
 t168:=underlying270
 a168:=isAgg270
 z168:=sizeOf270
 v168:=zeroValue270
 t171:=underlying263
 a171:=isAgg263
 z171:=sizeOf263
 v171:=zeroValue263
 t173:=underlying265
 a173:=isAgg265
 z173:=sizeOf265
 v173:=zeroValue265
 t175:=underlying276
 a175:=isAgg276
 z175:=sizeOf276
 v175:=zeroValue276
 t210:=underlying279
 a210:=isAgg279
 z210:=sizeOf279
 v210:=zeroValue279
 t212:=underlying274
 a212:=isAgg274
 z212:=sizeOf274
 v212:=zeroValue274
 t213:=underlying275
 a213:=isAgg275
 z213:=sizeOf275
 t232:=underlying285
 a232:=isAgg285
 z232:=sizeOf285
 v232:=zeroValue285
 t233:=underlying286
 a233:=isAgg286
 z233:=sizeOf286
 v233:=zeroValue286
 g15:=by kernel_rfl
 g16:=by kernel_rfl
 g17:=by kernel_rfl
 g18:=by kernel_rfl
 g19:=by kernel_rfl }
def Tryz.laysM171_ren:Go.Shelf.Ren:=⟨fun|171=>194|243=>206|246=>214|283=>220|284=>221|285=>222|286=>223|129=>167|317=>229|318=>230|319=>231|320=>232|337=>236|338=>237|n=>n,fun|3=>3|9=>9|2=>2|4=>4|171=>263|0=>0|53=>189|37=>33|5=>5|173=>265|212=>274|51=>216|20=>20|213=>275|46=>190|232=>285|233=>286|n=>n,fun|17=>32|18=>35|19=>36|n=>n⟩
theorem Tryz.laysM171:Go.Proofs.LaysM.n171 prog Tryz.laysM171_ren:={
 mixed:=by kernel_rfl
 f129:=func167.trans (congrArg some (by kernel_rfl))
 f171:=func194.trans (congrArg some (by kernel_rfl))
 f243:=func206.trans (congrArg some (by kernel_rfl))
 f246:=func214.trans (congrArg some (by kernel_rfl))
 f283:=func220.trans (congrArg some (by kernel_rfl))
 f284:=func221.trans (congrArg some (by kernel_rfl))
 f285:=func222.trans (congrArg some (by kernel_rfl))
 f286:=func223.trans (congrArg some (by kernel_rfl))
 f317:=func229.trans (congrArg some (by kernel_rfl))
 f318:=func230.trans (congrArg some (by kernel_rfl))
 f319:=func231.trans (congrArg some (by kernel_rfl))
 f320:=func232.trans (congrArg some (by kernel_rfl))
 f337:=func236.trans (congrArg some (by kernel_rfl))
 f338:=func237.trans (congrArg some (by kernel_rfl))
 t0:=underlying0
 a0:=isAgg0
 z0:=sizeOf0
 v0:=zeroValue0
 t2:=underlying2
 a2:=isAgg2
 z2:=sizeOf2
 v2:=zeroValue2
 t3:=underlying3
 a3:=isAgg3
 z3:=sizeOf3
 v3:=zeroValue3
 t4:=underlying4
 a4:=isAgg4
 z4:=sizeOf4
 v4:=zeroValue4
 t5:=underlying5
 a5:=isAgg5
 z5:=sizeOf5
 v5:=zeroValue5
 t9:=underlying9
 a9:=isAgg9
 z9:=sizeOf9
 v9:=zeroValue9
 t20:=underlying20
 a20:=isAgg20
 z20:=sizeOf20
 v20:=zeroValue20
 t37:=underlying33
 a37:=isAgg33
 z37:=sizeOf33
 v37:=zeroValue33
 t46:=underlying190
 a46:=isAgg190
 z46:=sizeOf190
 v46:=zeroValue190
 t51:=underlying216
 a51:=isAgg216
 z51:=sizeOf216
 v51:=zeroValue216
 t53:=underlying189
 a53:=isAgg189
 z53:=sizeOf189
 v53:=zeroValue189
 t171:=underlying263
 a171:=isAgg263
 z171:=sizeOf263
 v171:=zeroValue263
 t173:=underlying265
 a173:=isAgg265
 z173:=sizeOf265
 v173:=zeroValue265
 t212:=underlying274
 a212:=isAgg274
 z212:=sizeOf274
 v212:=zeroValue274
 t213:=underlying275
 a213:=isAgg275
 z213:=sizeOf275
 t232:=underlying285
 a232:=isAgg285
 z232:=sizeOf285
 v232:=zeroValue285
 t233:=underlying286
 a233:=isAgg286
 z233:=sizeOf286
 v233:=zeroValue286
 g17:=by kernel_rfl
 g18:=by kernel_rfl
 g19:=by kernel_rfl
 i0:=by kernel_rfl
 i2:=by kernel_rfl
 i3:=by kernel_rfl
 i4:=by kernel_rfl
 i5:=by kernel_rfl
 i9:=by kernel_rfl
 i20:=by kernel_rfl
 i37:=by kernel_rfl
 i46:=by kernel_rfl
 i51:=by kernel_rfl
 i53:=by kernel_rfl
 i171:=by kernel_rfl
 i173:=by kernel_rfl
 i212:=by kernel_rfl
 i232:=by kernel_rfl
 i233:=by kernel_rfl
 m17:=by kernel_rfl
 m18:=by kernel_rfl
 m19:=by kernel_rfl }
def Tryz.laysC172_ren:Go.Shelf.Ren:=⟨fun|172=>212|244=>218|245=>219|247=>224|279=>225|280=>226|281=>227|282=>228|287=>233|316=>234|171=>194|205=>235|321=>238|322=>239|243=>206|246=>214|283=>220|284=>221|285=>222|286=>223|129=>167|317=>229|318=>230|319=>231|320=>232|337=>236|338=>237|n=>n,fun|9=>9|3=>3|75=>28|76=>167|4=>4|5=>5|167=>267|37=>33|0=>0|85=>268|2=>2|168=>270|53=>189|175=>276|46=>190|210=>279|127=>254|145=>284|143=>282|21=>21|171=>263|173=>265|212=>274|51=>216|20=>20|213=>275|232=>285|233=>286|80=>135|n=>n,fun|15=>33|16=>34|17=>32|18=>35|19=>36|n=>n⟩
theorem Tryz.laysC172:Go.Proofs.LaysC.n172 prog Tryz.laysC172_ren:={
 mixed:=by kernel_rfl
 f129:=func167.trans (congrArg some (by kernel_rfl))
 f171:=func194.trans (congrArg some (by kernel_rfl))
 f172:=func212.trans (congrArg some (by kernel_rfl))
 f205:=func235.trans (congrArg some (by kernel_rfl))
 f243:=func206.trans (congrArg some (by kernel_rfl))
 f244:=func218.trans (congrArg some (by kernel_rfl))
 f245:=func219.trans (congrArg some (by kernel_rfl))
 f246:=func214.trans (congrArg some (by kernel_rfl))
 f247:=func224.trans (congrArg some (by kernel_rfl))
 f279:=func225.trans (congrArg some (by kernel_rfl))
 f280:=func226.trans (congrArg some (by kernel_rfl))
 f281:=func227.trans (congrArg some (by kernel_rfl))
 f282:=func228.trans (congrArg some (by kernel_rfl))
 f283:=func220.trans (congrArg some (by kernel_rfl))
 f284:=func221.trans (congrArg some (by kernel_rfl))
 f285:=func222.trans (congrArg some (by kernel_rfl))
 f286:=func223.trans (congrArg some (by kernel_rfl))
 f287:=func233.trans (congrArg some (by kernel_rfl))
 f316:=func234.trans (congrArg some (by kernel_rfl))
 f317:=func229.trans (congrArg some (by kernel_rfl))
 f318:=func230.trans (congrArg some (by kernel_rfl))
 f319:=func231.trans (congrArg some (by kernel_rfl))
 f320:=func232.trans (congrArg some (by kernel_rfl))
 f321:=func238.trans (congrArg some (by kernel_rfl))
 f322:=func239.trans (congrArg some (by kernel_rfl))
 f337:=func236.trans (congrArg some (by kernel_rfl))
 f338:=func237.trans (congrArg some (by kernel_rfl))
 t0:=underlying0
 a0:=isAgg0
 z0:=sizeOf0
 v0:=zeroValue0
 t2:=underlying2
 a2:=isAgg2
 z2:=sizeOf2
 v2:=zeroValue2
 t3:=underlying3
 a3:=isAgg3
 z3:=sizeOf3
 v3:=zeroValue3
 t4:=underlying4
 a4:=isAgg4
 z4:=sizeOf4
 v4:=zeroValue4
 t5:=underlying5
 a5:=isAgg5
 z5:=sizeOf5
 v5:=zeroValue5
 t9:=underlying9
 a9:=isAgg9
 z9:=sizeOf9
 v9:=zeroValue9
 t20:=underlying20
 a20:=isAgg20
 z20:=sizeOf20
 v20:=zeroValue20
 t21:=underlying21
 a21:=isAgg21
 z21:=sizeOf21
 v21:=zeroValue21
 t37:=underlying33
 a37:=isAgg33
 z37:=sizeOf33
 v37:=zeroValue33
 t46:=underlying190
 a46:=isAgg190
 z46:=sizeOf190
 v46:=zeroValue190
 t51:=underlying216
 a51:=isAgg216
 z51:=sizeOf216
 v51:=zeroValue216
 t53:=underlying189
 a53:=isAgg189
 z53:=sizeOf189
 v53:=zeroValue189
 t75:=underlying28
 a75:=isAgg28
 z75:=sizeOf28
 v75:=zeroValue28
 t76:=underlying167
 a76:=isAgg167
 z76:=sizeOf167
 v76:=zeroValue167
 t85:=underlying268
 a85:=isAgg268
 z85:=sizeOf268
 v85:=zeroValue268
 t127:=underlying254
 a127:=isAgg254
 z127:=sizeOf254
 v127:=zeroValue254
 t143:=underlying282
 a143:=isAgg282
 z143:=sizeOf282
 v143:=zeroValue282
 t145:=underlying284
 a145:=isAgg284
 z145:=sizeOf284
 v145:=zeroValue284
 t167:=underlying267
 a167:=isAgg267
 z167:=sizeOf267
 v167:=zeroValue267
 t168:=underlying270
 a168:=isAgg270
 z168:=sizeOf270
 v168:=zeroValue270
 t171:=underlying263
 a171:=isAgg263
 z171:=sizeOf263
 v171:=zeroValue263
 t173:=underlying265
 a173:=isAgg265
 z173:=sizeOf265
 v173:=zeroValue265
 t175:=underlying276
 a175:=isAgg276
 z175:=sizeOf276
 v175:=zeroValue276
 t210:=underlying279
 a210:=isAgg279
 z210:=sizeOf279
 v210:=zeroValue279
 t212:=underlying274
 a212:=isAgg274
 z212:=sizeOf274
 v212:=zeroValue274
 t213:=underlying275
 a213:=isAgg275
 z213:=sizeOf275
 t232:=underlying285
 a232:=isAgg285
 z232:=sizeOf285
 v232:=zeroValue285
 t233:=underlying286
 a233:=isAgg286
 z233:=sizeOf286
 v233:=zeroValue286
 g15:=by kernel_rfl
 g16:=by kernel_rfl
 g17:=by kernel_rfl
 g18:=by kernel_rfl
 g19:=by kernel_rfl
 t80:=underlying135
 a80:=isAgg135
 z80:=sizeOf135
 v80:=zeroValue135
 i0:=by kernel_rfl
 i2:=by kernel_rfl
 i3:=by kernel_rfl
 i4:=by kernel_rfl
 i5:=by kernel_rfl
 i9:=by kernel_rfl
 i20:=by kernel_rfl
 i21:=by kernel_rfl
 i37:=by kernel_rfl
 i46:=by kernel_rfl
 i51:=by kernel_rfl
 i53:=by kernel_rfl
 i75:=by kernel_rfl
 i76:=by kernel_rfl
 i80:=by kernel_rfl
 i85:=by kernel_rfl
 i127:=by kernel_rfl
 i143:=by kernel_rfl
 i145:=by kernel_rfl
 i167:=by kernel_rfl
 i168:=by kernel_rfl
 i171:=by kernel_rfl
 i173:=by kernel_rfl
 i175:=by kernel_rfl
 i210:=by kernel_rfl
 i212:=by kernel_rfl
 i232:=by kernel_rfl
 i233:=by kernel_rfl
 m15:=by kernel_rfl
 m16:=by kernel_rfl
 m17:=by kernel_rfl
 m18:=by kernel_rfl
 m19:=by kernel_rfl
 c0:=by kernel_rfl
 c2:=by kernel_rfl
 c3:=by kernel_rfl
 c4:=by kernel_rfl
 c5:=by kernel_rfl
 c9:=by kernel_rfl
 c20:=by kernel_rfl
 c21:=by kernel_rfl
 c37:=by kernel_rfl
 c46:=by kernel_rfl
 c51:=by kernel_rfl
 c53:=by kernel_rfl
 c75:=by kernel_rfl
 c76:=by kernel_rfl
 c80:=by kernel_rfl
 c85:=by kernel_rfl
 c127:=by kernel_rfl
 c143:=by kernel_rfl
 c145:=by kernel_rfl
 c167:=by kernel_rfl
 c168:=by kernel_rfl
 c171:=by kernel_rfl
 c173:=by kernel_rfl
 c175:=by kernel_rfl
 c210:=by kernel_rfl
 c212:=by kernel_rfl
 c213:=by kernel_rfl
 c232:=by kernel_rfl
 c233:=by kernel_rfl }
end Go.Proofs
namespace Go.Proofs.YtijkaknggdaajaaGreatDoor
open Go.Proofs.Tryz
open Lib (hid)
open Go.RowKit
theorem zBE {w w':World} (h:Below w.heap.size w w'):w.grownBy w' none:=⟨h.os,h.tape,h.output,h.size,fun k hk _=>h.block k hk⟩
theorem zD1 (w:World) (k:Nat) (os:Array Obj):w.grownBy (Sort.grow (w.drewN k) os) none :=
 ⟨rfl,rfl,rfl,by simp[Sort.grow],fun j hj _=>by
  show(w.heap++os)[j]?=w.heap[j]?
  rw[Array.getElem?_append_left hj]⟩
theorem zDi {w w':World} {name:String} {cs:Array Value} (h:w.var? prog name=some cs) (hg:w.grownBy w' none):w'.var? prog name=some cs:=by
 unfold World.var? at h ⊢;cases hn:prog.globalNamed name with
 |none=>rw[hn]at h;cases h
 |some g =>
  rw[hn]at h;simp only[Option.bind_some]at h ⊢;rcases Nat.lt_or_ge g w.heap.size with hl|hl
  ·rw[hg.block g hl (by simp)];exact h
  ·rw[Array.getElem?_eq_none hl]at h;cases h
structure Figs (w:World) (tp:TypeId) (p:Value):Prop where
 tab:Lib.TabIs prog w "internal/strconv.uint64pow10" .u64 Lib.pow10Tab
 err:w.var? prog "strconv.ErrSyntax"=some #[.iface tp p]
theorem Figs.grown {w w':World} {tp:TypeId} {p:Value} (h:Figs w tp p) (hg:w.grownBy w' none):Figs w' tp p:=⟨zDi h.tab hg,zDi h.err hg⟩
theorem zEB:∀ u:Nat,u<100000000000000000000->(Lib.decDigits u).map (·.toNat)=Wh.dig u:=fun u hu=>by
 refine Wh.dig_ind (P:=fun u=>(Lib.decDigits u).map (·.toNat)=Wh.dig u) (fun n hn=>?_) (fun n h10 hn ih=>?_) u hu
 ·rw[Lib.decDigits_one hn,Wh.dig_small hn];simp;omega
 ·rw[Lib.decDigits,dif_neg (by omega),List.map_append,ih,Wh.dig_step h10 hn];simp;omega
theorem zFl (u:Nat) (hu:u<100000000000000000000):(⟨(Lib.itoa (u:Int)).toArray⟩:ByteArray)=strOf (Wh.dig u):=by
 apply zEd;rw[zAw (fun x hx=>by
  have:=List.all_eq_true.1 (Wh.dig_fig u hu) x hx;simp[Wh.fig]at this;omega)]
 rw[strL,Lib.itoa,if_neg (by omega),Int.toNat_natCast];exact zEB u hu
theorem zFt (b:UInt8):Lib.digitVal b=if Wh.fig b.toNat=true then some (b.toNat-48)else none:=by
 unfold Lib.digitVal Wh.fig;simp
theorem decFrom_pval:∀ (l:List UInt8) (acc:Nat),(l.map (·.toNat)).all Wh.fig=true->Lib.decFrom acc l=some ((l.map (·.toNat)).foldl (fun a c=>a*10+(c-48)) acc)
 |[],acc,_=>rfl
 |b :: r,acc,h=>by
  simp only[List.map_cons,List.all_cons,Bool.and_eq_true]at h;rw[Lib.decFrom,zFt,if_pos h.1];simp only[];rw[decFrom_pval r _ h.2];rfl
theorem zFB (s:ByteArray) (h:(strL s).all Wh.fig=true) (hne:strL s≠[]):Lib.atoi s.data.toList=some ((Wh.pval (strL s):Nat):Int):=by
 unfold strL at *;generalize s.data.toList=l at *
 match l,hne with
 |b :: r,_ =>
  have hb:Wh.fig b.toNat=true:=by simp only[List.map_cons,List.all_cons,Bool.and_eq_true]at h;exact h.1
  have hb2:48<=b.toNat:=by simp[Wh.fig]at hb;omega
  have n1:(b==45)=false:=by
   rw[beq_eq_false_iff_ne];intro e;subst e;revert hb2;decide
  have n2:(b==43)=false:=by
   rw[beq_eq_false_iff_ne];intro e;subst e;revert hb2;decide
  rw[Lib.atoi,n1,n2];simp only[Bool.false_eq_true,if_false];rw[Lib.decNat];simp only[List.isEmpty_cons,Bool.false_eq_true,if_false];rw[decFrom_pval (b :: r) 0 h];rfl
theorem itoa_any (u:Nat) (hu:u<9223372036854775808) (tp:TypeId) (p:Value) (w:World) (hF:Figs w tp p) :
  Calls prog 194 #[.int .i64 u] w fun e w'=>e=.returned (.string (strOf (Wh.dig u)))/\w.grownBy w' none :=
 (Any.strconv_Itoa Tryz.laysM171 u (by omega) (by omega) w hF.tab).mono (by
  rintro e w' ⟨rfl,k,os,rfl⟩;exact⟨by rw[zFl u (by omega)],zD1 w k os⟩)
theorem zKE (s:ByteArray) (n:Int) (hl:s.size<=18) (h:Lib.atoi s.data.toList=some n) (w:World) :
  Calls prog 212 #[.string s] w fun e w'=>e=.returned (.tuple #[.int .i64 n,.nilIface])/\w.grownBy w' none :=
 (Any.strconv_Atoi Tryz.lays172 s n hl h w).mono (by
  rintro e w' ⟨rfl,t,rfl⟩;exact⟨rfl,zBE (Lib.bytesWorld_below _ _ _)⟩)
theorem zJH (s:ByteArray) (hl:s.size<=18) (h:Lib.atoi s.data.toList=none) (tp:TypeId) (p:Value) (w:World) (hF:Figs w tp p) :
  Calls prog 212 #[.string s] w fun e w'=>∃ N,e=.returned (.tuple #[.int .i64 0,.iface 270 (.pointer (some ⟨N,0,none⟩))])/\w.grownBy w' none :=
 (Any.strconv_Atoi_err_var Tryz.laysC172 s hl h tp p w hF.err).mono (by
  rintro e w' ⟨N,rfl,_,_,hb⟩;exact⟨N,rfl,zBE hb⟩)
end Go.Proofs.YtijkaknggdaajaaGreatDoor
