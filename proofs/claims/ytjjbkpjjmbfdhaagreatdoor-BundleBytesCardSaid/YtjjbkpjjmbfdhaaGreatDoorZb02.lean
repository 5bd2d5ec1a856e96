import Derived.Test.YtjjbkpjjmbfdhaaGreatDoorZb00
import Derived.Test.YtjjbkpjjmbfdhaaGreatDoorZb01
import Derived.Test.YtjjbkpjjmbfdhaaGreatDoorChecked
import Derived.WalkKit
import Derived.Lib.Hide
import Derived.Laws.Externs
import Derived.Shelf.Small.Bits
import Derived.Test.YtjjbkpjjmbfdhaaGreatDoorProg
set_option linter.unusedVariables false
set_option linter.unusedSimpArgs false
set_option maxRecDepth 100000
namespace Go.Proofs.YtjjbkpjjmbfdhaaGreatDoor
open Lib (hid)
open Go.RowKit
theorem bytesLess_lex:∀ (x y:List UInt8),Op.bytesLess x y=Cal.lex (x.map (·.toNat)) (y.map (·.toNat))
 |[],[]=>rfl
 |_ :: _,[]=>rfl
 |[],_ :: _=>rfl
 |a :: x,b :: y=>by
  have h:=bytesLess_lex x y
  rw[Op.bytesLess,List.map_cons,List.map_cons,Cal.lex,h]
  by_cases e:a=b
  ·subst e
   simp
  ·have e2:¬ a.toNat=b.toNat:=fun h=>e (UInt8.toNat_inj.1 h)
   rw[if_neg e2]
   simp[e,UInt8.lt_iff_toNat_lt]
theorem str_less (s t:ByteArray):Op.bytesLess s.toList t.toList=Cal.lex (strL s) (strL t):=by
 rw[ByteArray.toList_eq,ByteArray.toList_eq,bytesLess_lex]
 rfl
namespace Pt
def rowL (u m i:Nat):List Nat:=[u,rev8 (m%2 ^ i%256),rev8 (m%2 ^ i/256)]
theorem rev8_step_fin:∀ x:Fin 256,∀ i:Fin 8,rev8 (x.val%2 ^ (i.val+1))=rev8 (x.val%2 ^ i.val)+(if x.val/2 ^ i.val%2=1 then 2 ^ (7-i.val) else 0):=by decide +kernel
theorem bit_lo (m:Nat):∀ i,i<8→m%256/2 ^ i%2=m/2 ^ i%2
 |0,_=>by simp only[Nat.pow_zero];omega
 |1,_=>by show m%256/2%2=m/2%2;omega
 |2,_=>by show m%256/4%2=m/4%2;omega
 |3,_=>by show m%256/8%2=m/8%2;omega
 |4,_=>by show m%256/16%2=m/16%2;omega
 |5,_=>by show m%256/32%2=m/32%2;omega
 |6,_=>by show m%256/64%2=m/64%2;omega
 |7,_=>by show m%256/128%2=m/128%2;omega
theorem lo_low (m:Nat) {i:Nat} (h:i≤8):m%2 ^ i%256=m%256%2 ^ i∧m%2 ^ i/256=0:=by
 have h1:2 ^ i≤256:=Nat.pow_le_pow_right (n:=2) (by decide) h
 have h2:2 ^ i ∣ 256:=Nat.pow_dvd_pow 2 h
 have h3:m%2 ^ i<2 ^ i:=Nat.mod_lt _ (Nat.pow_pos (by decide))
 rw[Nat.mod_mod_of_dvd _ h2]
 exact ⟨Nat.mod_eq_of_lt (by omega),by omega⟩
theorem lo_high (m k:Nat):m%2 ^ (8+k)%256=m%256∧m%2 ^ (8+k)/256=m/256%2 ^ k:=by
 have e:m%2 ^ (8+k)=m%256+256*(m/256%2 ^ k):=by rw[Nat.pow_add,show (2:Nat) ^ 8=256 from rfl,Nat.mod_mul]
 rw[e]
 omega
theorem bit_high (m k:Nat):m/2 ^ (8+k)=m/256/2 ^ k:=by rw[Nat.pow_add,show (2:Nat) ^ 8=256 from rfl,Nat.div_div_eq_div_mul]
theorem rev8_step {x i:Nat} (hx:x<256) (hi:i<8):rev8 (x%2 ^ (i+1))=rev8 (x%2 ^ i)+(if x/2 ^ i%2=1 then 2 ^ (7-i) else 0):=rev8_step_fin ⟨x,hx⟩ ⟨i,hi⟩
theorem rowL_step (u:Nat) {m i:Nat} (hm:m<32768) (hi:i<15):rowL u m (i+1)=(rowL u m i).set (1+i/8) ((rowL u m i).getD (1+i/8) 0+(if m/2 ^ i%2=1 then 2 ^ (7-i%8) else 0)):=by
 rcases Nat.lt_or_ge i 8 with h|h
 ·have a:=lo_low m (i:=i) (by omega)
  have b:=lo_low m (i:=i+1) (by omega)
  have c:=rev8_step (x:=m%256) (Nat.mod_lt _ (by decide)) h
  rw[bit_lo m i h] at c
  rw[show i/8=0 by omega,show i%8=i by omega]
  simp only[rowL,a.1,a.2,b.1,b.2,c,Nat.add_zero,List.getD_cons_succ,List.getD_cons_zero,List.set_cons_succ,List.set_cons_zero]
 ·obtain ⟨k,rfl⟩:∃ k,i=8+k:=⟨i-8,by omega⟩
  have a:=lo_high m k
  have b:=lo_high m (k+1)
  have c:=rev8_step (x:=m/256) (i:=k) (by omega) (by omega)
  rw[←bit_high] at c
  rw[show (8+k)/8=1 by omega,show (8+k)%8=k by omega,show 8+k+1=8+(k+1) by omega]
  simp only[rowL,a.1,a.2,b.1,b.2,c,List.getD_cons_succ,List.getD_cons_zero,List.set_cons_succ,List.set_cons_zero,show 1+1=2 from rfl]
theorem rowL_lt (u m i:Nat) (hu:u<256):∀ j,(rowL u m i).getD j 0<256:=by
 have a:=rev8_lt (m%2 ^ i%256)
 have b:=rev8_lt (m%2 ^ i/256)
 intro j
 match j with
 |0=>exact hu
 |1=>exact a
 |2=>exact b
 |n+3=>exact Nat.zero_lt_succ _
theorem size_step (m i:Nat):size (m%2 ^ (i+1))=if m/2 ^ i%2=1 then i+1 else size (m%2 ^ i):=by
 have e:m%2 ^ (i+1)=m%2 ^ i+2 ^ i*(m/2 ^ i%2):=Nat.mod_pow_succ
 have h1:m%2 ^ i<2 ^ i:=Nat.mod_lt _ (Nat.pow_pos (by decide))
 have h2:2 ^ (i+1)=2 ^ i*2:=Nat.pow_succ ..
 split
 ·rename_i h
  rw[h,Nat.mul_one] at e
  exact size_is (by omega) (by omega)
 ·rename_i h
  rw[show m/2 ^ i%2=0 by omega,Nat.mul_zero] at e
  rw[e]
  rfl
theorem size_15 {m:Nat} (hm:m<32768):size m≤15:=size_le_of (k:=15) hm
theorem flags_take {m:Nat} (hm:m<32768):(rowL (8*((size m+7)/8)-size m) m (size m)).take (1+(size m+7)/8)=flags m:=by
 have a:=size_lt m
 have hm2:m%2 ^ size m=m:=Nat.mod_eq_of_lt a
 rw[rowL,hm2]
 unfold flags
 by_cases h0:m=0
 ·rw[if_pos h0,h0];rfl
 ·rw[if_neg h0]
  have c:=size_pos h0
  by_cases h1:m<256
  ·have d:size m≤8:=size_le_of (k:=8) h1
   rw[if_pos h1,show (size m+7)/8=1 by omega,Nat.mod_eq_of_lt h1]
   rfl
  ·have d:size m≤16:=size_le_of (k:=16) (by omega)
   have e:9≤size m:=by
    have:8<size m:=(Nat.pow_lt_pow_iff_right (a:=2) (by decide)).1 (by omega)
    omega
   rw[if_neg h1,show (size m+7)/8=2 by omega]
   rfl
end Pt
namespace Wh
theorem num_snoc (c:Nat):∀ l,num (l++[c])=num l*256+c
 |[]=>by simp[num]
 |x :: r=>by
  rw[List.cons_append,num,num_snoc c r,num,List.length_append,List.length_singleton,Nat.pow_succ]
  generalize 256 ^ r.length=p
  rw[Nat.add_mul,←Nat.mul_assoc]
  omega
end Wh
theorem getD_small {l:List Nat} (h:∀ x∈l,x<256) (j:Nat):l.getD j 0<256:=by
 rcases Nat.lt_or_ge j l.length with hj|hj
 ·rw[List.getD_eq_getElem?_getD,List.getElem?_eq_getElem hj];exact h _ (List.getElem_mem hj)
 ·rw[List.getD_eq_getElem?_getD,List.getElem?_eq_none hj];decide
namespace Bc
def cmp (a b:List Nat):Int:=Extern.BytealgCompare.cmp (strOf a) (strOf b)
theorem strOf_at (l:List Nat) (i:Nat) (h:i<l.length):(strOf l)[i]! = UInt8.ofNat (l.getD i 0):=by
 have hs:i<(strOf l).size:=by rw[strOf_size];exact h
 rw[getElem!_pos (strOf l) i hs,List.getD_eq_getElem?_getD,List.getElem?_eq_getElem h]
 show ((l.map UInt8.ofNat).toArray)[i]'(by simpa using h)=_
 rw[List.getElem_toArray,List.getElem_map]
 rfl
theorem ne_at {x y:Nat} (hx:x<256) (hy:y<256):(UInt8.ofNat x != UInt8.ofNat y)=decide (x≠y):=by
 rw[Bool.eq_iff_iff]
 simp only[bne_iff_ne,ne_eq,decide_eq_true_eq]
 refine not_congr ⟨fun h=>?_,fun h=>by rw[h]⟩
 have:=congrArg UInt8.toNat h
 rw[UInt8.toNat_ofNat',UInt8.toNat_ofNat',Nat.mod_eq_of_lt hx,Nat.mod_eq_of_lt hy] at this
 exact this
theorem lt_at {x y:Nat} (hx:x<256) (hy:y<256):(UInt8.ofNat x<UInt8.ofNat y)↔x<y:=by
 rw[UInt8.lt_iff_toNat_lt,UInt8.toNat_ofNat',UInt8.toNat_ofNat',Nat.mod_eq_of_lt hx,Nat.mod_eq_of_lt hy]
theorem lex_at:∀ (a b:List Nat) (i:Nat),(∀ j,j<i→a.getD j 0=b.getD j 0)→i≤a.length→i≤b.length →
  (i<a.length→i<b.length→a.getD i 0≠b.getD i 0→Cal.lex a b=decide (a.getD i 0<b.getD i 0)) ∧
  (i=a.length∨i=b.length→Cal.lex a b=decide (a.length<b.length))
 |[],[],i,_,ha,_=>⟨fun h=>absurd h (by simp),fun _=>by simp[Cal.lex]⟩
 |[],y :: s,i,_,ha,_=>⟨fun h=>absurd h (by simp),fun _=>by simp[Cal.lex]⟩
 |x :: r,[],i,_,_,hb=>⟨fun _ h=>absurd h (by simp),fun _=>by simp[Cal.lex]⟩
 |x :: r,y :: s,0,_,_,_=>⟨fun _ _ h=>by
   simp only[List.getD_cons_zero] at h ⊢
   rw[Cal.lex,if_neg h],fun h=>by simp at h⟩
 |x :: r,y :: s,i+1,hj,ha,hb=>by
  have e:x=y:=by simpa using hj 0 (by omega)
  subst e
  have ih:=lex_at r s i (fun j h=>by simpa using hj (j+1) (by omega)) (by simpa using ha) (by simpa using hb)
  simp only[List.getD_cons_succ,List.length_cons] at ih ⊢
  rw[Cal.lex,if_pos rfl]
  refine ⟨fun h1 h2 h3=>ih.1 (by omega) (by omega) h3,fun h=>?_⟩
  rw[ih.2 (by omega)]
  simp
theorem cmp_lex {a b:List Nat} (ha:∀ x∈a,x<256) (hb:∀ x∈b,x<256):decide (cmp a b<0)=Cal.lex a b:=by
 have ga:∀ i,a.getD i 0<256:=fun i=>by
  rw[List.getD_eq_getElem?_getD]
  cases h:a[i]? with
  |none=>exact Nat.zero_lt_succ _
  |some x=>exact ha x (List.mem_of_getElem? h)
 have gb:∀ i,b.getD i 0<256:=fun i=>by
  rw[List.getD_eq_getElem?_getD]
  cases h:b[i]? with
  |none=>exact Nat.zero_lt_succ _
  |some x=>exact hb x (List.mem_of_getElem? h)
 unfold cmp Extern.BytealgCompare.cmp
 rw[strOf_size,strOf_size]
 have pe:∀ i,i<min a.length b.length→((strOf a)[i]! != (strOf b)[i]!)=decide (a.getD i 0≠b.getD i 0):=fun i h=>by
  rw[strOf_at a i (by omega),strOf_at b i (by omega),ne_at (ga i) (gb i)]
 cases hf:(List.range (min a.length b.length)).find? fun i=>(strOf a)[i]! != (strOf b)[i]! with
 |none =>
  rw[List.find?_range_eq_none] at hf
  have hj:∀ j,j<min a.length b.length→a.getD j 0=b.getD j 0:=fun j h=>by
   have:=hf j h
   rw[pe j h] at this
   simpa using this
  have hl:=(lex_at a b (min a.length b.length) hj (by omega) (by omega)).2 (by omega)
  rw[hl]
  show decide ((if a.length<b.length then (-1:Int) else if a.length > b.length then 1 else 0)<0)=_
  by_cases h1:a.length<b.length
  ·rw[if_pos h1];simp[h1]
  ·rw[if_neg h1];split <;> simp[h1]
 |some i =>
  rw[List.find?_range_eq_some] at hf
  obtain ⟨h1,h2,h3⟩:=hf
  have hi:i<min a.length b.length:=List.mem_range.1 h2
  rw[pe i hi] at h1
  have hj:∀ j,j<i→a.getD j 0=b.getD j 0:=fun j h=>by
   have:=h3 j h
   rw[pe j (by omega)] at this
   simpa using this
  have hl:=(lex_at a b i hj (by omega) (by omega)).1 (by omega) (by omega) (by simpa using h1)
  rw[hl]
  show decide ((if (strOf a)[i]!<(strOf b)[i]! then (-1:Int) else 1)<0)=_
  rw[strOf_at a i (by omega),strOf_at b i (by omega)]
  by_cases h:a.getD i 0<b.getD i 0
  ·rw[if_pos ((lt_at (ga i) (gb i)).2 h)];simp only[h];decide
  ·rw[if_neg (fun h2=>h ((lt_at (ga i) (gb i)).1 h2))];simp only[h];decide
end Bc
theorem run_loadBytes2 {P:Program} {w:World} {sb:Nat} (l:List Nat):∀ (so:Nat) (acc:List Nat),(∀ j,j<l.length→w.cell? ⟨sb,so+j,none⟩=some (.int .u8 (l.getD j 0:Nat)))→(∀ x∈l,x<256) →
  (Extern.Bytes.loadBytes ⟨sb,so,none⟩ l.length (strOf acc)).run P w=.ok (strOf (acc++l)) w:=by
 induction l with
 |nil=>intro so acc _ _;rw[List.append_nil];rfl
 |cons x r ih =>
  intro so acc h hlt
  have hx:=hlt x (by simp)
  have h0:=h 0 (by simp)
  simp only[List.getD_cons_zero,Nat.add_zero] at h0
  rw[List.length_cons,Extern.Bytes.loadBytes]
  simp only[Sem.run_bind,run_load,h0,Result.andThen]
  rw[addr_addO]
  have e:(strOf acc).push (x:Int).toNat.toUInt8=strOf (acc++[x]):=by
   rw[Int.toNat_natCast]
   simp[strOf,ByteArray.push]
  rw[e]
  have:=ih (so+1) (acc++[x]) (fun j hj=>by have:=h (j+1) (by simp;omega);rw[Nat.add_assoc,Nat.add_comm 1 j,this];simp) (fun y hy=>hlt y (by simp[hy]))
  rw[this,List.append_assoc]
  rfl
theorem run_bytesOf2 {P:Program} {w:World} {v:Value} {l:List Nat} (hB:Bytes w v l) (h0:Whole0 v):(Extern.Bytes.bytesOf v).run P w=.ok (strOf l) w:=by
 obtain ⟨hlt,a,sb,so,c,rfl,hc,ha,hcell⟩:=hB
 match a with
 |none =>
  obtain ⟨hn,_⟩:=h0 _ _ rfl
  obtain rfl:=List.eq_nil_of_length_eq_zero hn
  rfl
 |some ad =>
  match l,ha,hcell,hlt,hc,h0 with
  |[],_,_,_,_,_=>rfl
  |x :: r,ha,hcell,hlt,_,_ =>
   obtain ⟨e,_⟩:=ha (by simp)
   obtain rfl:=Option.some.inj e
   have:=run_loadBytes2 (P:=P) (w:=w) (sb:=sb) (x :: r) so [] hcell hlt
   rw[List.nil_append] at this
   exact this
theorem compareB_any (v u:Value) (A B:List Nat) (w:World) (hA:Bytes w v A) (hB:Bytes w u B) (hv:Whole0 v) (hu:Whole0 u) :
  Calls Tryz.prog 143 #[v,u] w fun e w'=>e=.returned (.int .i64 (Bc.cmp A B))∧w'=w:=by
 have h77:(callFunc 175 #[v,u]).run Tryz.prog w=.ok (.value (.int .i64 (Bc.cmp A B))) w:=by
  rw[@run_callFunc_extern Tryz.prog 175 _ Extern.BytealgCompare.compare Tryz.func175 (by kernel_rfl) (by kernel_rfl) (by kernel_rfl) (by kernel_rfl)]
  have e:Extern.BytealgCompare.compare #[v,u]=(do pure (goInt (Extern.BytealgCompare.cmp (←Extern.Bytes.bytesOf v) (←Extern.Bytes.bytesOf u)))):=rfl
  rw[e]
  simp only[Sem.run_bind,run_bytesOf2 hA hv,run_bytesOf2 hB hu,Result.andThen]
  rfl
 obtain ⟨_,va,_,_,vc,rfl,_⟩:=hA
 obtain ⟨_,ua,_,_,uc,rfl,_⟩:=hB
 generalize Bc.cmp A B=c at *
 go_enter Tryz.func143,Tryz.ntmps143
 go_wp2
 go_ret
 exact ⟨rfl,rfl⟩
namespace Pt
end Pt
end Go.Proofs.YtjjbkpjjmbfdhaaGreatDoor
namespace Go.Proofs
open Go.Shelf
def Tryz.lays125_ren:Go.Shelf.Ren:=⟨fun|125=>119|128=>156|129=>157|n=>n,fun|46=>105|3=>3|51=>209|53=>211|4=>4|5=>5|9=>9|n=>n,fun|n=>n⟩
theorem Tryz.lays125:Go.Proofs.Lays.n125 Tryz.prog Tryz.lays125_ren:={
 mixed:=by kernel_rfl
 f125:=Tryz.func119.trans (congrArg some (by kernel_rfl))
 f128:=Tryz.func156.trans (congrArg some (by kernel_rfl))
 f129:=Tryz.func157.trans (congrArg some (by kernel_rfl))
 t3:=Tryz.underlying3
 a3:=Tryz.isAgg3
 z3:=Tryz.sizeOf3
 v3:=Tryz.zeroValue3
 t4:=Tryz.underlying4
 a4:=Tryz.isAgg4
 z4:=Tryz.sizeOf4
 v4:=Tryz.zeroValue4
 t5:=Tryz.underlying5
 a5:=Tryz.isAgg5
 z5:=Tryz.sizeOf5
 v5:=Tryz.zeroValue5
 t9:=Tryz.underlying9
 a9:=Tryz.isAgg9
 z9:=Tryz.sizeOf9
 v9:=Tryz.zeroValue9
 t46:=Tryz.underlying105
 a46:=Tryz.isAgg105
 z46:=Tryz.sizeOf105
 v46:=Tryz.zeroValue105
 t51:=Tryz.underlying209
 a51:=Tryz.isAgg209
 z51:=Tryz.sizeOf209
 v51:=Tryz.zeroValue209
 t53:=Tryz.underlying211
 a53:=Tryz.isAgg211
 z53:=Tryz.sizeOf211
 v53:=Tryz.zeroValue211 }
end Go.Proofs
namespace Go.Proofs.YtjjbkpjjmbfdhaaGreatDoor
open Lib (hid)
theorem bitsLen_any (x:Int) (w:World) (h0:0≤x) (h1:x≤18446744073709551615) :
  Calls Tryz.prog 119 #[.int .u64 x] w fun e w'=>e=.returned (.int .i64 (Lib.bitLen x.toNat))∧w'=w:=Any.bits_Len Tryz.lays125 x w h0 h1
end Go.Proofs.YtjjbkpjjmbfdhaaGreatDoor
namespace Go.Proofs.YtjjbkpjjmbfdhaaGreatDoor
open Lib (hid)
open Go.RowKit
theorem bitLen_lt:∀ (j x:Nat),x<18446744073709551616→(Lib.bitLen x≤j↔x<2 ^ j)
 |0,x,hx=>by
  rcases Nat.eq_zero_or_pos x with h|h
  ·subst h
   rw[show Lib.bitLen 0=0 from by decide];simp
  ·rw[Lib.bitLen_half x (by omega) hx];simp;omega
 |j+1,x,hx=>by
  rcases Nat.eq_zero_or_pos x with h|h
  ·subst h
   exact ⟨fun _=>Nat.two_pow_pos _,fun _=>by rw[show Lib.bitLen 0=0 from by decide];omega⟩
  ·rw[Lib.bitLen_half x (by omega) hx,Nat.pow_succ]
   have:=bitLen_lt j (x/2) (by omega)
   omega
namespace Wh
def mag (n:Int):Nat:=if n<0 then (-n-1).toNat else n.toNat
theorem mag_lt {n:Int} {p:Nat} (h1 : -(128*p:Int)≤n) (h2:n<(128*p:Int)):mag n<128*p:=by
 unfold mag
 split <;> omega
theorem mag_ge {n:Int} {p:Nat} (h:n < -(128*p:Int)∨(128*p:Int)≤n):128*p≤mag n:=by
 unfold mag
 split <;> omega
theorem p256 (k:Nat):128*256 ^ k=2 ^ (8*k+7):=by
 rw[Nat.pow_add,show (2:Nat) ^ 7=128 from rfl,Nat.pow_mul,show (2:Nat) ^ 8=256 from rfl,Nat.mul_comm]
theorem bits_of (n:Int) (l:List Nat) (b:Nat) (hb:∀ j,b≤j↔mag n<2 ^ j) (hn:l≠[]) (hv:val l=n) (hlt:∀ x∈l,x<256) (hm:needless l=false):l.length=b/8+1:=by
 rcases l with _|⟨x,r⟩
 ·exact absurd rfl hn
 ·have hlo:=val_lo hlt
  have hc:((256:Int) ^ r.length)=((256 ^ r.length:Nat):Int):=by simp
  rw[hv,hc] at hlo
  have a1:=mag_lt hlo.1 hlo.2
  rw[p256] at a1
  have b1:=(hb (8*r.length+7)).2 a1
  have b2:8*r.length≤b:=by
   rcases r with _|⟨y,s⟩
   ·simp
   ·have hhi:=val_hi hlt hm
    have hc:((256:Int) ^ s.length)=((256 ^ s.length:Nat):Int):=by simp
    rw[hv,hc] at hhi
    have a2:=mag_ge hhi
    rw[p256] at a2
    have b3:=hb (8*s.length+7)
    have b4:¬ b≤8*s.length+7:=fun h=>Nat.lt_irrefl _ (Nat.lt_of_lt_of_le (b3.1 h) a2)
    rw[List.length_cons]
    clear a1 b1 hlo hhi a2 b3
    omega
  rw[List.length_cons]
  clear a1 hlo hb
  omega
theorem body_bits (n:Int) (h1 : -9223372036854775808≤n) (h2:n≤9223372036854775807):(body n).length=Lib.bitLen (mag n)/8+1∧mag n<9223372036854775808:=by
 have hM:mag n<9223372036854775808:=by unfold mag;split <;> omega
 exact ⟨bits_of n _ _ (fun j=>bitLen_lt j _ (by omega)) (body_ne n) (body_val n h1 h2) (body_lt n) (body_min n),hM⟩
end Wh
theorem xor_wrap (m:Nat) (hm:m<9223372036854775808):IntKind.u64.wrap (bits .xor .i64 (if IntKind.i64.signed=true then -1 else 9223372036854775807) (-(m:Int)-1))=m:=by
 have e:(if IntKind.i64.signed=true then (-1:Int) else 9223372036854775807)=-1:=rfl
 have h:bits .xor .i64 (-1) (-(m:Int)-1)=m:=by
  show IntKind.i64.wrap ((BitVec.ofInt 64 (-1) ^^^ BitVec.ofInt 64 (-(m:Int)-1)).toNat:Int)=_
  have h1:BitVec.ofInt 64 (-1)=BitVec.allOnes 64:=rfl
  have h2:BitVec.allOnes 64 ^^^ BitVec.ofInt 64 (-(m:Int)-1) = ~~~ BitVec.ofInt 64 (-(m:Int)-1):=BitVec.allOnes_xor
  have h3:(BitVec.ofInt 64 (-(m:Int)-1)).toNat=18446744073709551615-m:=by
   rw[BitVec.toNat_ofInt]
   simp only[Nat.reducePow,Int.cast_ofNat_Int]
   omega
  rw[h1,h2,BitVec.toNat_not,h3]
  simp only[IntKind.wrap,IntKind.bits,IntKind.signed]
  simp
  omega
 rw[e,h]
 simp only[IntKind.wrap,IntKind.bits,IntKind.signed]
 simp
 omega
theorem wbytes_any (n:Int) (h1 : -9223372036854775808≤n) (h2:n≤9223372036854775807) (w:World) :
  Calls Tryz.prog 105 #[.int .i64 n] w fun e w'=>e=.returned (.int .i64 (Wh.body n).length)∧w'=w:=by
 obtain ⟨hl,hm⟩:=Wh.body_bits n h1 h2
 have HL:=hid hl
 obtain ⟨m,hmn⟩:∃ m,m=Wh.mag n:=⟨_,rfl⟩
 rw[←hmn] at HL hm
 have hb64:Lib.bitLen m≤64:=(bitLen_lt 64 m (Nat.lt_trans hm (by decide))).2 (Nat.lt_trans hm (by decide))
 obtain ⟨L,hL⟩:∃ L,L=(Wh.body n).length:=⟨_,rfl⟩
 rw[←hL] at HL hl ⊢
 clear hL
 have hB:=fun w=>bitsLen_any (m:Int) w (by omega) (by clear hb64 hl HL;omega)
 rw[Int.toNat_natCast] at hB
 generalize Lib.bitLen m=b at *
 have HB:=hid hB
 clear hB
 by_cases hn:n<0
 ·have e1:n=-(m:Int)-1:=by rw[hmn,Wh.mag,if_pos hn];omega
  subst e1
  clear hmn hl h1 h2
  go_enter Tryz.func105,Tryz.ntmps105
  go_wp2_with (go_at_call 119;rw[xor_wrap m hm];refine (HB.out _).mono ?_;rintro e w' ⟨rfl,rfl⟩)
  go_ret
  refine ⟨ret_int ?_,rfl⟩
  rw[HL.out]
  omega
 ·have e1:n=(m:Int):=by rw[hmn,Wh.mag,if_neg hn];omega
  subst e1
  clear hmn hl h1 h2
  go_enter Tryz.func105,Tryz.ntmps105
  go_wp2_with (go_at_call 119;refine (HB.out _).mono ?_;rintro e w' ⟨rfl,rfl⟩)
  go_ret
  refine ⟨ret_int ?_,rfl⟩
  rw[HL.out]
  omega
end Go.Proofs.YtjjbkpjjmbfdhaaGreatDoor
