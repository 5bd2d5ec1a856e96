import Derived.Test.YtndkifkhdollgaaGreatDoorZs00
import Derived.Test.YtndkifkhdollgaaGreatDoorZs02
import Derived.Test.YtndkifkhdollgaaGreatDoorChecked
import Derived.WalkKit
import Derived.Lib.Hide
import Derived.Laws.Externs
set_option linter.unusedVariables false
set_option linter.unusedSimpArgs false
set_option maxRecDepth 100000
set_option maxHeartbeats 400000
namespace Go.Proofs.YtndkifkhdollgaaGreatDoor
open Lib (hid)
open Go.RowKit
theorem bytesLess_lex:∀ (x y:List UInt8),Op.bytesLess x y=Cal.lex (x.map (·.toNat)) (y.map (·.toNat))
 |[],[]=>rfl
 |_ :: _,[]=>rfl
 |[],_ :: _=>rfl
 |a :: x,b :: y=>by
  have h:=bytesLess_lex x y
  rw[Op.bytesLess,List.map_cons,List.map_cons,Cal.lex,h]
  by_cases e:a=b
  ·subst e
   simp
  ·have e2:¬ a.toNat=b.toNat:=fun h=>e (UInt8.toNat_inj.1 h)
   rw[if_neg e2]
   simp[e,UInt8.lt_iff_toNat_lt]
theorem str_less (s t:ByteArray):Op.bytesLess s.toList t.toList=Cal.lex (strL s) (strL t):=by
 rw[ByteArray.toList_eq,ByteArray.toList_eq,bytesLess_lex]
 rfl
namespace Pt
def rowL (u m i:Nat):List Nat:=[u,rev8 (m%2 ^ i%256),rev8 (m%2 ^ i/256)]
theorem rev8_step_fin:∀ x:Fin 256,∀ i:Fin 8,rev8 (x.val%2 ^ (i.val+1))=rev8 (x.val%2 ^ i.val)+(if x.val/2 ^ i.val%2=1 then 2 ^ (7-i.val) else 0):=by decide +kernel
theorem bit_lo (m:Nat):∀ i,i<8→m%256/2 ^ i%2=m/2 ^ i%2
 |0,_=>by simp only[Nat.pow_zero];omega
 |1,_=>by show m%256/2%2=m/2%2;omega
 |2,_=>by show m%256/4%2=m/4%2;omega
 |3,_=>by show m%256/8%2=m/8%2;omega
 |4,_=>by show m%256/16%2=m/16%2;omega
 |5,_=>by show m%256/32%2=m/32%2;omega
 |6,_=>by show m%256/64%2=m/64%2;omega
 |7,_=>by show m%256/128%2=m/128%2;omega
theorem lo_low (m:Nat) {i:Nat} (h:i≤8):m%2 ^ i%256=m%256%2 ^ i∧m%2 ^ i/256=0:=by
 have h1:2 ^ i≤256:=Nat.pow_le_pow_right (n:=2) (by decide) h
 have h2:2 ^ i ∣ 256:=Nat.pow_dvd_pow 2 h
 have h3:m%2 ^ i<2 ^ i:=Nat.mod_lt _ (Nat.pow_pos (by decide))
 rw[Nat.mod_mod_of_dvd _ h2]
 exact ⟨Nat.mod_eq_of_lt (by omega),by omega⟩
theorem lo_high (m k:Nat):m%2 ^ (8+k)%256=m%256∧m%2 ^ (8+k)/256=m/256%2 ^ k:=by
 have e:m%2 ^ (8+k)=m%256+256*(m/256%2 ^ k):=by rw[Nat.pow_add,show (2:Nat) ^ 8=256 from rfl,Nat.mod_mul]
 rw[e]
 omega
theorem bit_high (m k:Nat):m/2 ^ (8+k)=m/256/2 ^ k:=by rw[Nat.pow_add,show (2:Nat) ^ 8=256 from rfl,Nat.div_div_eq_div_mul]
theorem rev8_step {x i:Nat} (hx:x<256) (hi:i<8):rev8 (x%2 ^ (i+1))=rev8 (x%2 ^ i)+(if x/2 ^ i%2=1 then 2 ^ (7-i) else 0):=rev8_step_fin ⟨x,hx⟩ ⟨i,hi⟩
theorem rowL_step (u:Nat) {m i:Nat} (hm:m<32768) (hi:i<15):rowL u m (i+1)=(rowL u m i).set (1+i/8) ((rowL u m i).getD (1+i/8) 0+(if m/2 ^ i%2=1 then 2 ^ (7-i%8) else 0)):=by
 rcases Nat.lt_or_ge i 8 with h|h
 ·have a:=lo_low m (i:=i) (by omega)
  have b:=lo_low m (i:=i+1) (by omega)
  have c:=rev8_step (x:=m%256) (Nat.mod_lt _ (by decide)) h
  rw[bit_lo m i h] at c
  rw[show i/8=0 by omega,show i%8=i by omega]
  simp only[rowL,a.1,a.2,b.1,b.2,c,Nat.add_zero,List.getD_cons_succ,List.getD_cons_zero,List.set_cons_succ,List.set_cons_zero]
 ·obtain ⟨k,rfl⟩:∃ k,i=8+k:=⟨i-8,by omega⟩
  have a:=lo_high m k
  have b:=lo_high m (k+1)
  have c:=rev8_step (x:=m/256) (i:=k) (by omega) (by omega)
  rw[←bit_high] at c
  rw[show (8+k)/8=1 by omega,show (8+k)%8=k by omega,show 8+k+1=8+(k+1) by omega]
  simp only[rowL,a.1,a.2,b.1,b.2,c,List.getD_cons_succ,List.getD_cons_zero,List.set_cons_succ,List.set_cons_zero,show 1+1=2 from rfl]
theorem rowL_lt (u m i:Nat) (hu:u<256):∀ j,(rowL u m i).getD j 0<256:=by
 have a:=rev8_lt (m%2 ^ i%256)
 have b:=rev8_lt (m%2 ^ i/256)
 intro j
 match j with
 |0=>exact hu
 |1=>exact a
 |2=>exact b
 |n+3=>exact Nat.zero_lt_succ _
theorem size_step (m i:Nat):size (m%2 ^ (i+1))=if m/2 ^ i%2=1 then i+1 else size (m%2 ^ i):=by
 have e:m%2 ^ (i+1)=m%2 ^ i+2 ^ i*(m/2 ^ i%2):=Nat.mod_pow_succ
 have h1:m%2 ^ i<2 ^ i:=Nat.mod_lt _ (Nat.pow_pos (by decide))
 have h2:2 ^ (i+1)=2 ^ i*2:=Nat.pow_succ ..
 split
 ·rename_i h
  rw[h,Nat.mul_one] at e
  exact size_is (by omega) (by omega)
 ·rename_i h
  rw[show m/2 ^ i%2=0 by omega,Nat.mul_zero] at e
  rw[e]
  rfl
theorem size_15 {m:Nat} (hm:m<32768):size m≤15:=size_le_of (k:=15) hm
theorem flags_take {m:Nat} (hm:m<32768):(rowL (8*((size m+7)/8)-size m) m (size m)).take (1+(size m+7)/8)=flags m:=by
 have a:=size_lt m
 have hm2:m%2 ^ size m=m:=Nat.mod_eq_of_lt a
 rw[rowL,hm2]
 unfold flags
 by_cases h0:m=0
 ·rw[if_pos h0,h0];rfl
 ·rw[if_neg h0]
  have c:=size_pos h0
  by_cases h1:m<256
  ·have d:size m≤8:=size_le_of (k:=8) h1
   rw[if_pos h1,show (size m+7)/8=1 by omega,Nat.mod_eq_of_lt h1]
   rfl
  ·have d:size m≤16:=size_le_of (k:=16) (by omega)
   have e:9≤size m:=by
    have:8<size m:=(Nat.pow_lt_pow_iff_right (a:=2) (by decide)).1 (by omega)
    omega
   rw[if_neg h1,show (size m+7)/8=2 by omega]
   rfl
end Pt
namespace Wh
theorem num_snoc (c:Nat):∀ l,num (l++[c])=num l*256+c
 |[]=>by simp[num]
 |x :: r=>by
  rw[List.cons_append,num,num_snoc c r,num,List.length_append,List.length_singleton,Nat.pow_succ]
  generalize 256 ^ r.length=p
  rw[Nat.add_mul,←Nat.mul_assoc]
  omega
theorem num_take (l:List Nat) (k:Nat) (h:k<l.length):num (l.take (k+1))=num (l.take k)*256+l.getD k 0:=by
 rw[List.take_add_one,List.getElem?_eq_getElem h,Option.toList_some,num_snoc]
 simp[List.getD_eq_getElem?_getD,List.getElem?_eq_getElem h]
def acc (s:Bool) (l:List Nat) (k:Nat):Nat:=num (l.take k)+(if s then 18446744073709551616-256 ^ k else 0)
theorem acc_step (s:Bool) (l:List Nat) (k:Nat) (hl:∀ x∈l,x<256) (h:k<l.length) (h8:l.length≤8):(acc s l k*256+l.getD k 0)%18446744073709551616=acc s l (k+1)∧acc s l k<18446744073709551616:=by
 have h1:=num_lt (l:=l.take k) (fun x hx=>hl x (List.mem_of_mem_take hx))
 have h2:=num_lt (l:=l.take (k+1)) (fun x hx=>hl x (List.mem_of_mem_take hx))
 have hx:l.getD k 0<256:=by
  rw[List.getD_eq_getElem?_getD,List.getElem?_eq_getElem h];exact hl _ (List.getElem_mem h)
 have ht:=num_take l k h
 rw[List.length_take,Nat.min_eq_left (by omega)] at h1 h2
 have hp:256 ^ (k+1)≤256 ^ 8:=Nat.pow_le_pow_right (by decide) (by omega)
 rw[show (256 ^ 8:Nat)=18446744073709551616 by decide] at hp
 have hk:0<256 ^ k:=Nat.pow_pos (by decide)
 unfold acc
 rw[ht] at h2 ⊢
 rw[Nat.pow_succ] at *
 generalize num (l.take k)=a at *
 generalize 256 ^ k=p at *
 generalize l.getD k 0=x at *
 cases s
 ·simp;omega
 ·simp only[if_true];omega
end Wh
theorem wrap64_i64 (n:Int):wrap64 n=IntKind.i64.wrap n:=by
 simp only[wrap64,IntKind.wrap,IntKind.bits,IntKind.signed]
 simp
 split <;> omega
theorem wrap_acc (m z:Nat):IntKind.u64.wrap (IntKind.u64.wrap ((m:Int)*256)+(z:Int))=(((m*256+z)%18446744073709551616:Nat):Int):=by
 simp only[IntKind.wrap,IntKind.bits,IntKind.signed]
 simp
theorem getD_small {l:List Nat} (h:∀ x∈l,x<256) (j:Nat):l.getD j 0<256:=by
 rcases Nat.lt_or_ge j l.length with hj|hj
 ·rw[List.getD_eq_getElem?_getD,List.getElem?_eq_getElem hj];exact h _ (List.getElem_mem hj)
 ·rw[List.getD_eq_getElem?_getD,List.getElem?_eq_none hj];decide
theorem acc_last (l:List Nat) (x:Nat) (r:List Nat) (e:l=x :: r) (hl:∀ x∈l,x<256) (h8:l.length≤8):IntKind.i64.wrap ((Wh.acc (decide (127<x)) l l.length:Nat):Int)=Wh.val l:=by
 subst e
 have h1:=Wh.num_lt hl
 have hp:256 ^ (x :: r).length≤256 ^ 8:=Nat.pow_le_pow_right (by decide) h8
 rw[show (256 ^ 8:Nat)=18446744073709551616 by decide] at hp
 have hv:=Wh.val_i64 hl h8
 rw[Wh.val] at hv ⊢
 rw[Wh.acc,List.take_length]
 rw[List.length_cons] at *
 generalize Wh.num (x :: r)=p at *
 generalize 256 ^ (r.length+1)=q at *
 simp only[IntKind.wrap,IntKind.bits,IntKind.signed]
 by_cases hx:127<x
 ·rw[if_pos hx] at hv ⊢
  simp only[hx,decide_true,if_true]
  simp
  omega
 ·rw[if_neg hx] at hv ⊢
  simp only[hx,decide_false]
  simp
  omega
theorem refWGet_any (v:Value) (l:List Nat) (w:World) (hB:Bytes w v l) :
  Calls Tryz.prog 124 #[v] w fun e w'=>w'=w∧match Wh.get l with
   |.ok n=>e=.returned (.tuple #[.int .i64 n,.int .i64 0])
   |.error k=>e=.returned (.tuple #[.int .i64 0,.int .i64 k]):=by
 obtain ⟨hlt,a,sb,so,c,rfl,hc,ha,hcell⟩:=hB
 match l,hlt,hc,ha,hcell with
 |[],hlt,hc,ha,hcell =>
  clear hlt ha hcell
  rw[show Wh.get []=.error 2 by rw[Wh.get,if_pos rfl]]
  go_enter Tryz.func124,Tryz.ntmps124
  go_wp2
  go_ret2
  exact ⟨rfl,rfl⟩
 |x :: r,hlt,hc,ha,hcell =>
  obtain ⟨rfl,ha2⟩:=ha (by simp)
  have c0:w.cell? ⟨sb,so,none⟩=some (.int .u8 (x:Nat)):=hcell 0 (by simp)
  have hx:=hlt x (by simp)
  obtain ⟨y,hy⟩:∃ y,y=(x :: r).getD 1 0:=⟨_,rfl⟩
  have hy2:y<256:=by rw[hy];exact getD_small hlt 1
  have c1:1<(x :: r).length→w.cell? ⟨sb,so+1,none⟩=some (.int .u8 (y:Nat)):=fun h=>by rw[hy];exact hcell 1 h
  have hneed:Wh.needless (x :: r)=true↔1<(x :: r).length∧(x=0∧y<128∨x=255∧127<y):=by
   match r,hy with
   |[],_=>simp[Wh.needless]
   |z :: s,hy =>
    have:y=z:=by simpa using hy
    subst this
    simp[Wh.needless]
  have hg1:Wh.needless (x :: r)=true→Wh.get (x :: r)=.error 4:=fun h=>by rw[Wh.get,if_neg (by simp),if_pos h]
  have hg2:¬ Wh.needless (x :: r)=true→8<(x :: r).length→Wh.get (x :: r)=.error 1:=fun h h8=>by rw[Wh.get,if_neg (by simp),if_neg h,if_pos h8]
  have hg3:¬ Wh.needless (x :: r)=true→¬ 8<(x :: r).length→Wh.get (x :: r)=.ok (Wh.val (x :: r)):=fun h h8=>by rw[Wh.get,if_neg (by simp),if_neg h,if_neg h8]
  have hlast:=fun h8=>acc_last (x :: r) x r rfl hlt h8
  have hstep:=fun k h h8=>Wh.acc_step (decide (127<x)) (x :: r) k hlt h h8
  have hx0:(x :: r).getD 0 0=x:=rfl
  have hpos:0<(x :: r).length:=by simp
  rw[hneed] at hg1 hg2 hg3
  clear hneed hy ha
  generalize hL:(x :: r)=L at *
  have Hcell:=hid hcell
  have Hlt:=hid hlt
  have HL:=hid hL
  clear hcell hlt hL
  obtain ⟨n,hn⟩:∃ n,n=L.length:=⟨_,rfl⟩
  have HN:=hid hn
  rw[←hn] at hc c1 hg1 hg2 hg3 hlast hstep hpos ⊢
  have Hlast:=hid hlast
  have Hstep:=hid hstep
  clear hn hlast hstep hx0
  generalize hgv:Wh.get L=gv at *
  clear hgv
  by_cases h1:1<n∧(x=0∧y<128∨x=255∧127<y)
  ·obtain rfl:=hg1 h1
   obtain ⟨h1,h2⟩:=h1
   have c1':=c1 h1
   clear hg1 hg2 hg3 c1
   go_enter Tryz.func124,Tryz.ntmps124
   rcases h2 with ⟨rfl,h2⟩|⟨rfl,h2⟩
   ·go_wp2
    go_ret2
    exact ⟨rfl,rfl⟩
   ·go_wp2
    go_ret2
    exact ⟨rfl,rfl⟩
  ·have hcase:n=1∨(1<n∧x=0∧128≤y)∨(1<n∧x=255∧y≤127)∨(1<n∧x≠0∧x≠255):=by omega
   by_cases h8:8<n
   ·obtain rfl:=hg2 h1 h8
    have c1':=c1 (by omega)
    clear hg1 hg2 hg3 c1 h1
    go_enter Tryz.func124,Tryz.ntmps124
    rcases hcase with h|⟨h,rfl,h2⟩|⟨h,rfl,h2⟩|⟨h,h2,h3⟩
    ·omega
    ·go_wp2
     go_ret2
     exact ⟨rfl,rfl⟩
    ·go_wp2
     go_ret2
     exact ⟨rfl,rfl⟩
    ·go_wp2
     go_ret2
     exact ⟨rfl,rfl⟩
   ·obtain rfl:=hg3 h1 h8
    clear hg1 hg2 hg3 h1
    have Hl:=hid (Hlast.out (by omega))
    have HSt:=hid (fun k hk=>Hstep.out k hk (by omega))
    obtain ⟨S,hS⟩:∃ S,S=decide (127<x):=⟨_,rfl⟩
    have HS:Hid (S=decide (127<x)):=hid hS
    rw[←hS] at Hl HSt
    generalize Wh.val L=V at *
    have fin:∀ (a:Act),True:=fun _=>trivial
    clear Hlast Hstep hS fin
    rcases hcase with rfl|⟨h,rfl,h2⟩|⟨h,rfl,h2⟩|⟨h,h2,h3⟩
    ·clear c1
     by_cases hs:127<x
     ·go_enter Tryz.func124,Tryz.ntmps124
      go_wp2
      go_loopw [4,46] (fun u i wr=>∃ k:Nat,k≤1∧i=.int .i64 k∧u=.int .u64 (Wh.acc S L k:Nat)∧wr=w) (fun _ i _=>1-(intOf i).toNat)
      case atStart=>exact ⟨0,Nat.zero_le _,rfl,by rw[HS.out];simp[Wh.acc,Wh.num,hs],rfl⟩
      case round =>
       obtain ⟨k,hk,rfl,rfl,rfl⟩:=hrel
       by_cases hkn:k<1
       ·have hc1:=Hcell.out k (by rw[←HN.out];exact hkn)
        have hz:=getD_small Hlt.out k
        obtain ⟨hs1,hs2⟩:=HSt.out k hkn
        have Hs1:=hid hs1
        clear hs1
        generalize L.getD k 0=z at *
        generalize Wh.acc S L k=m at *
        go_wp2
        go_roundw
        case rel=>exact ⟨k+1,by omega,by go_num,by rw[wrap_acc,Hs1.out],trivial⟩
        case measure=>simp[intOf];omega
       ·obtain rfl:k=1:=by omega
        generalize hm:Wh.acc S L _=m at *
        have Hm1:=hid hm
        clear hm
        go_wp2
        go_ret2
        exact ⟨rfl,by rw[←Hl.out,←wrap64_i64];rfl⟩
     ·go_enter Tryz.func124,Tryz.ntmps124
      go_wp2
      go_loopw [4,46] (fun u i wr=>∃ k:Nat,k≤1∧i=.int .i64 k∧u=.int .u64 (Wh.acc S L k:Nat)∧wr=w) (fun _ i _=>1-(intOf i).toNat)
      case atStart=>exact ⟨0,Nat.zero_le _,rfl,by rw[HS.out];simp[Wh.acc,Wh.num,hs],rfl⟩
      case round =>
       obtain ⟨k,hk,rfl,rfl,rfl⟩:=hrel
       by_cases hkn:k<1
       ·have hc1:=Hcell.out k (by rw[←HN.out];exact hkn)
        have hz:=getD_small Hlt.out k
        obtain ⟨hs1,hs2⟩:=HSt.out k hkn
        have Hs1:=hid hs1
        clear hs1
        generalize L.getD k 0=z at *
        generalize Wh.acc S L k=m at *
        go_wp2
        go_roundw
        case rel=>exact ⟨k+1,by omega,by go_num,by rw[wrap_acc,Hs1.out],trivial⟩
        case measure=>simp[intOf];omega
       ·obtain rfl:k=1:=by omega
        generalize hm:Wh.acc S L _=m at *
        have Hm1:=hid hm
        clear hm
        go_wp2
        go_ret2
        exact ⟨rfl,by rw[←Hl.out,←wrap64_i64];rfl⟩
    ·have c1':=c1 h
     clear c1
     go_enter Tryz.func124,Tryz.ntmps124
     go_wp2
     go_loopw [4,46] (fun u i wr=>∃ k:Nat,k≤n∧i=.int .i64 k∧u=.int .u64 (Wh.acc S L k:Nat)∧wr=w) (fun _ i _=>n-(intOf i).toNat)
     case atStart=>exact ⟨0,Nat.zero_le _,rfl,by rw[HS.out];simp[Wh.acc,Wh.num,show ¬ (127<0) by omega],rfl⟩
     case round =>
      obtain ⟨k,hk,rfl,rfl,rfl⟩:=hrel
      by_cases hkn:k<n
      ·have hc1:=Hcell.out k (by rw[←HN.out];exact hkn)
       have hz:=getD_small Hlt.out k
       obtain ⟨hs1,hs2⟩:=HSt.out k hkn
       have Hs1:=hid hs1
       clear hs1
       generalize L.getD k 0=z at *
       generalize Wh.acc S L k=m at *
       go_wp2
       go_roundw
       case rel=>exact ⟨k+1,by omega,by go_num,by rw[wrap_acc,Hs1.out],trivial⟩
       case measure=>simp[intOf];omega
      ·obtain rfl:k=n:=by omega
       generalize hm:Wh.acc S L _=m at *
       have Hm1:=hid hm
       clear hm
       go_wp2
       go_ret2
       exact ⟨rfl,by rw[←Hl.out,←wrap64_i64];rfl⟩
    ·have c1':=c1 h
     clear c1
     go_enter Tryz.func124,Tryz.ntmps124
     go_wp2
     go_loopw [4,46] (fun u i wr=>∃ k:Nat,k≤n∧i=.int .i64 k∧u=.int .u64 (Wh.acc S L k:Nat)∧wr=w) (fun _ i _=>n-(intOf i).toNat)
     case atStart=>exact ⟨0,Nat.zero_le _,rfl,by rw[HS.out];simp[Wh.acc,Wh.num,show 127<255 by omega],rfl⟩
     case round =>
      obtain ⟨k,hk,rfl,rfl,rfl⟩:=hrel
      by_cases hkn:k<n
      ·have hc1:=Hcell.out k (by rw[←HN.out];exact hkn)
       have hz:=getD_small Hlt.out k
       obtain ⟨hs1,hs2⟩:=HSt.out k hkn
       have Hs1:=hid hs1
       clear hs1
       generalize L.getD k 0=z at *
       generalize Wh.acc S L k=m at *
       go_wp2
       go_roundw
       case rel=>exact ⟨k+1,by omega,by go_num,by rw[wrap_acc,Hs1.out],trivial⟩
       case measure=>simp[intOf];omega
      ·obtain rfl:k=n:=by omega
       generalize hm:Wh.acc S L _=m at *
       have Hm1:=hid hm
       clear hm
       go_wp2
       go_ret2
       exact ⟨rfl,by rw[←Hl.out,←wrap64_i64];rfl⟩
    ·have c1':=c1 h
     clear c1
     by_cases hs:127<x
     ·go_enter Tryz.func124,Tryz.ntmps124
      go_wp2
      go_loopw [4,46] (fun u i wr=>∃ k:Nat,k≤n∧i=.int .i64 k∧u=.int .u64 (Wh.acc S L k:Nat)∧wr=w) (fun _ i _=>n-(intOf i).toNat)
      case atStart=>exact ⟨0,Nat.zero_le _,rfl,by rw[HS.out];simp[Wh.acc,Wh.num,hs],rfl⟩
      case round =>
       obtain ⟨k,hk,rfl,rfl,rfl⟩:=hrel
       by_cases hkn:k<n
       ·have hc1:=Hcell.out k (by rw[←HN.out];exact hkn)
        have hz:=getD_small Hlt.out k
        obtain ⟨hs1,hs2⟩:=HSt.out k hkn
        have Hs1:=hid hs1
        clear hs1
        generalize L.getD k 0=z at *
        generalize Wh.acc S L k=m at *
        go_wp2
        go_roundw
        case rel=>exact ⟨k+1,by omega,by go_num,by rw[wrap_acc,Hs1.out],trivial⟩
        case measure=>simp[intOf];omega
       ·obtain rfl:k=n:=by omega
        generalize hm:Wh.acc S L _=m at *
        have Hm1:=hid hm
        clear hm
        go_wp2
        go_ret2
        exact ⟨rfl,by rw[←Hl.out,←wrap64_i64];rfl⟩
     ·go_enter Tryz.func124,Tryz.ntmps124
      go_wp2
      go_loopw [4,46] (fun u i wr=>∃ k:Nat,k≤n∧i=.int .i64 k∧u=.int .u64 (Wh.acc S L k:Nat)∧wr=w) (fun _ i _=>n-(intOf i).toNat)
      case atStart=>exact ⟨0,Nat.zero_le _,rfl,by rw[HS.out];simp[Wh.acc,Wh.num,hs],rfl⟩
      case round =>
       obtain ⟨k,hk,rfl,rfl,rfl⟩:=hrel
       by_cases hkn:k<n
       ·have hc1:=Hcell.out k (by rw[←HN.out];exact hkn)
        have hz:=getD_small Hlt.out k
        obtain ⟨hs1,hs2⟩:=HSt.out k hkn
        have Hs1:=hid hs1
        clear hs1
        generalize L.getD k 0=z at *
        generalize Wh.acc S L k=m at *
        go_wp2
        go_roundw
        case rel=>exact ⟨k+1,by omega,by go_num,by rw[wrap_acc,Hs1.out],trivial⟩
        case measure=>simp[intOf];omega
       ·obtain rfl:k=n:=by omega
        generalize hm:Wh.acc S L _=m at *
        have Hm1:=hid hm
        clear hm
        go_wp2
        go_ret2
        exact ⟨rfl,by rw[←Hl.out,←wrap64_i64];rfl⟩
namespace Bc
def cmp (a b:List Nat):Int:=Extern.BytealgCompare.cmp (strOf a) (strOf b)
theorem strOf_at (l:List Nat) (i:Nat) (h:i<l.length):(strOf l)[i]! = UInt8.ofNat (l.getD i 0):=by
 have hs:i<(strOf l).size:=by rw[strOf_size];exact h
 rw[getElem!_pos (strOf l) i hs,List.getD_eq_getElem?_getD,List.getElem?_eq_getElem h]
 show ((l.map UInt8.ofNat).toArray)[i]'(by simpa using h)=_
 rw[List.getElem_toArray,List.getElem_map]
 rfl
theorem ne_at {x y:Nat} (hx:x<256) (hy:y<256):(UInt8.ofNat x != UInt8.ofNat y)=decide (x≠y):=by
 rw[Bool.eq_iff_iff]
 simp only[bne_iff_ne,ne_eq,decide_eq_true_eq]
 refine not_congr ⟨fun h=>?_,fun h=>by rw[h]⟩
 have:=congrArg UInt8.toNat h
 rw[UInt8.toNat_ofNat',UInt8.toNat_ofNat',Nat.mod_eq_of_lt hx,Nat.mod_eq_of_lt hy] at this
 exact this
theorem lt_at {x y:Nat} (hx:x<256) (hy:y<256):(UInt8.ofNat x<UInt8.ofNat y)↔x<y:=by
 rw[UInt8.lt_iff_toNat_lt,UInt8.toNat_ofNat',UInt8.toNat_ofNat',Nat.mod_eq_of_lt hx,Nat.mod_eq_of_lt hy]
theorem lex_at:∀ (a b:List Nat) (i:Nat),(∀ j,j<i→a.getD j 0=b.getD j 0)→i≤a.length→i≤b.length →
  (i<a.length→i<b.length→a.getD i 0≠b.getD i 0→Cal.lex a b=decide (a.getD i 0<b.getD i 0)) ∧
  (i=a.length∨i=b.length→Cal.lex a b=decide (a.length<b.length))
 |[],[],i,_,ha,_=>⟨fun h=>absurd h (by simp),fun _=>by simp[Cal.lex]⟩
 |[],y :: s,i,_,ha,_=>⟨fun h=>absurd h (by simp),fun _=>by simp[Cal.lex]⟩
 |x :: r,[],i,_,_,hb=>⟨fun _ h=>absurd h (by simp),fun _=>by simp[Cal.lex]⟩
 |x :: r,y :: s,0,_,_,_=>⟨fun _ _ h=>by
   simp only[List.getD_cons_zero] at h ⊢
   rw[Cal.lex,if_neg h],fun h=>by simp at h⟩
 |x :: r,y :: s,i+1,hj,ha,hb=>by
  have e:x=y:=by simpa using hj 0 (by omega)
  subst e
  have ih:=lex_at r s i (fun j h=>by simpa using hj (j+1) (by omega)) (by simpa using ha) (by simpa using hb)
  simp only[List.getD_cons_succ,List.length_cons] at ih ⊢
  rw[Cal.lex,if_pos rfl]
  refine ⟨fun h1 h2 h3=>ih.1 (by omega) (by omega) h3,fun h=>?_⟩
  rw[ih.2 (by omega)]
  simp
theorem cmp_lex {a b:List Nat} (ha:∀ x∈a,x<256) (hb:∀ x∈b,x<256):decide (cmp a b<0)=Cal.lex a b:=by
 have ga:∀ i,a.getD i 0<256:=fun i=>by
  rw[List.getD_eq_getElem?_getD]
  cases h:a[i]? with
  |none=>exact Nat.zero_lt_succ _
  |some x=>exact ha x (List.mem_of_getElem? h)
 have gb:∀ i,b.getD i 0<256:=fun i=>by
  rw[List.getD_eq_getElem?_getD]
  cases h:b[i]? with
  |none=>exact Nat.zero_lt_succ _
  |some x=>exact hb x (List.mem_of_getElem? h)
 unfold cmp Extern.BytealgCompare.cmp
 rw[strOf_size,strOf_size]
 have pe:∀ i,i<min a.length b.length→((strOf a)[i]! != (strOf b)[i]!)=decide (a.getD i 0≠b.getD i 0):=fun i h=>by
  rw[strOf_at a i (by omega),strOf_at b i (by omega),ne_at (ga i) (gb i)]
 cases hf:(List.range (min a.length b.length)).find? fun i=>(strOf a)[i]! != (strOf b)[i]! with
 |none =>
  rw[List.find?_range_eq_none] at hf
  have hj:∀ j,j<min a.length b.length→a.getD j 0=b.getD j 0:=fun j h=>by
   have:=hf j h
   rw[pe j h] at this
   simpa using this
  have hl:=(lex_at a b (min a.length b.length) hj (by omega) (by omega)).2 (by omega)
  rw[hl]
  show decide ((if a.length<b.length then (-1:Int) else if a.length > b.length then 1 else 0)<0)=_
  by_cases h1:a.length<b.length
  ·rw[if_pos h1];simp[h1]
  ·rw[if_neg h1];split <;> simp[h1]
 |some i =>
  rw[List.find?_range_eq_some] at hf
  obtain ⟨h1,h2,h3⟩:=hf
  have hi:i<min a.length b.length:=List.mem_range.1 h2
  rw[pe i hi] at h1
  have hj:∀ j,j<i→a.getD j 0=b.getD j 0:=fun j h=>by
   have:=h3 j h
   rw[pe j (by omega)] at this
   simpa using this
  have hl:=(lex_at a b i hj (by omega) (by omega)).1 (by omega) (by omega) (by simpa using h1)
  rw[hl]
  show decide ((if (strOf a)[i]!<(strOf b)[i]! then (-1:Int) else 1)<0)=_
  rw[strOf_at a i (by omega),strOf_at b i (by omega)]
  by_cases h:a.getD i 0<b.getD i 0
  ·rw[if_pos ((lt_at (ga i) (gb i)).2 h)];simp only[h];decide
  ·rw[if_neg (fun h2=>h ((lt_at (ga i) (gb i)).1 h2))];simp only[h];decide
end Bc
theorem run_loadBytes2 {P:Program} {w:World} {sb:Nat} (l:List Nat):∀ (so:Nat) (acc:List Nat),(∀ j,j<l.length→w.cell? ⟨sb,so+j,none⟩=some (.int .u8 (l.getD j 0:Nat)))→(∀ x∈l,x<256) →
  (Extern.Bytes.loadBytes ⟨sb,so,none⟩ l.length (strOf acc)).run P w=.ok (strOf (acc++l)) w:=by
 induction l with
 |nil=>intro so acc _ _;rw[List.append_nil];rfl
 |cons x r ih =>
  intro so acc h hlt
  have hx:=hlt x (by simp)
  have h0:=h 0 (by simp)
  simp only[List.getD_cons_zero,Nat.add_zero] at h0
  rw[List.length_cons,Extern.Bytes.loadBytes]
  simp only[Sem.run_bind,run_load,h0,Result.andThen]
  rw[addr_addO]
  have e:(strOf acc).push (x:Int).toNat.toUInt8=strOf (acc++[x]):=by
   rw[Int.toNat_natCast]
   simp[strOf,ByteArray.push]
  rw[e]
  have:=ih (so+1) (acc++[x]) (fun j hj=>by have:=h (j+1) (by simp;omega);rw[Nat.add_assoc,Nat.add_comm 1 j,this];simp) (fun y hy=>hlt y (by simp[hy]))
  rw[this,List.append_assoc]
  rfl
theorem run_bytesOf2 {P:Program} {w:World} {v:Value} {l:List Nat} (hB:Bytes w v l) (h0:Whole0 v):(Extern.Bytes.bytesOf v).run P w=.ok (strOf l) w:=by
 obtain ⟨hlt,a,sb,so,c,rfl,hc,ha,hcell⟩:=hB
 match a with
 |none =>
  obtain ⟨hn,_⟩:=h0 _ _ rfl
  obtain rfl:=List.eq_nil_of_length_eq_zero hn
  rfl
 |some ad =>
  match l,ha,hcell,hlt,hc,h0 with
  |[],_,_,_,_,_=>rfl
  |x :: r,ha,hcell,hlt,_,_ =>
   obtain ⟨e,_⟩:=ha (by simp)
   obtain rfl:=Option.some.inj e
   have:=run_loadBytes2 (P:=P) (w:=w) (sb:=sb) (x :: r) so [] hcell hlt
   rw[List.nil_append] at this
   exact this
theorem compareB_any (v u:Value) (A B:List Nat) (w:World) (hA:Bytes w v A) (hB:Bytes w u B) (hv:Whole0 v) (hu:Whole0 u) :
  Calls Tryz.prog 184 #[v,u] w fun e w'=>e=.returned (.int .i64 (Bc.cmp A B))∧w'=w:=by
 have h77:(callFunc 209 #[v,u]).run Tryz.prog w=.ok (.value (.int .i64 (Bc.cmp A B))) w:=by
  rw[@run_callFunc_extern Tryz.prog 209 _ Extern.BytealgCompare.compare Tryz.func209 (by kernel_rfl) (by kernel_rfl) (by kernel_rfl) (by kernel_rfl)]
  have e:Extern.BytealgCompare.compare #[v,u]=(do pure (goInt (Extern.BytealgCompare.cmp (←Extern.Bytes.bytesOf v) (←Extern.Bytes.bytesOf u)))):=rfl
  rw[e]
  simp only[Sem.run_bind,run_bytesOf2 hA hv,run_bytesOf2 hB hu,Result.andThen]
  rfl
 obtain ⟨_,va,_,_,vc,rfl,_⟩:=hA
 obtain ⟨_,ua,_,_,uc,rfl,_⟩:=hB
 generalize Bc.cmp A B=c at *
 go_enter Tryz.func184,Tryz.ntmps184
 go_wp2
 go_ret
 exact ⟨rfl,rfl⟩
namespace Pt
end Pt
end Go.Proofs.YtndkifkhdollgaaGreatDoor
