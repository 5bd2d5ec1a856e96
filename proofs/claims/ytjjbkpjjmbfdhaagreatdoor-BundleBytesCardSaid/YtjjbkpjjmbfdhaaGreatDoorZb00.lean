import Derived.Lib.Hide
import Derived.Lib.DecodeN
import Derived.Lib.TrimUEq
import Derived.Lib.ValidLaws
set_option linter.unusedVariables false
set_option linter.unusedSimpArgs false
namespace Go.Proofs.YtjjbkpjjmbfdhaaGreatDoor
namespace Wh
def num:List Nat→Nat
 |[]=>0
 |x :: r=>x*256 ^ r.length+num r
def be:Nat→Nat→List Nat
 |0,_=>[]
 |k+1,u=>u/256 ^ k%256 :: be k u
def val:List Nat→Int
 |[]=>0
 |x :: r=>if 127<x then (num (x :: r):Int)-(256 ^ (r.length+1):Nat) else (num (x :: r):Int)
def needless:List Nat→Bool
 |x :: y :: _=>(decide (x=0)&&decide (y<128))||(decide (x=255)&&decide (127<y))
 |_=>false
def strip:List Nat→List Nat
 |x :: y :: r=>if needless (x :: y :: r)=true then strip (y :: r) else x :: y :: r
 |l=>l
def u64 (n:Int):Nat:=(n%18446744073709551616).toNat
def body (n:Int):List Nat:=strip (be 8 (u64 n))
theorem pow_pos (k:Nat):0<256 ^ k:=Nat.pow_pos (by decide)
theorem num_lt:∀ {l:List Nat},(∀ x∈l,x<256)→num l<256 ^ l.length
 |[],_=>by simp[num]
 |x :: r,h=>by
  have h1:=num_lt (l:=r) (fun y hy=>h y (by simp[hy]))
  have h2:=h x (by simp)
  have h3:x*256 ^ r.length+256 ^ r.length≤256*256 ^ r.length:=by
   have:(x+1)*256 ^ r.length≤256*256 ^ r.length:=Nat.mul_le_mul_right _ h2
   rwa [Nat.add_mul,Nat.one_mul] at this
  rw[num,List.length_cons,Nat.pow_succ,Nat.mul_comm (256 ^ r.length) 256]
  omega
theorem be_len (u:Nat):∀ k,(be k u).length=k
 |0=>rfl
 |k+1=>by rw[be,List.length_cons,be_len u k]
theorem be_lt (u:Nat):∀ k,∀ x∈be k u,x<256
 |0=>by simp[be]
 |k+1=>by
  intro x hx
  rw[be,List.mem_cons] at hx
  rcases hx with rfl|hx
  ·exact Nat.mod_lt _ (by decide)
  ·exact be_lt u k x hx
theorem num_be (u:Nat):∀ k,num (be k u)=u%256 ^ k
 |0=>by simp[be,num,Nat.mod_one]
 |k+1=>by
  rw[be,num,be_len,num_be u k,Nat.pow_succ]
  have:=Nat.mod_mul (a:=256 ^ k) (b:=256) (x:=u)
  rw[this,Nat.mul_comm (256 ^ k) _]
  omega
theorem needless_val {x y:Nat} {r:List Nat} (h:needless (x :: y :: r)=true):val (y :: r)=val (x :: y :: r):=by
 rw[needless,Bool.or_eq_true,Bool.and_eq_true,Bool.and_eq_true] at h
 simp only[decide_eq_true_eq] at h
 rw[val,val]
 rcases h with ⟨rfl,hy⟩|⟨rfl,hy⟩
 ·rw[if_neg (by omega),if_neg (by omega)]
  congr 1
  show _=0*_+num (y :: r)
  omega
 ·rw[if_pos hy,if_pos (by omega)]
  have e:num (255 :: y :: r)=255*256 ^ (r.length+1)+num (y :: r):=rfl
  rw[e,List.length_cons,Nat.pow_succ 256 (r.length+1)]
  generalize 256 ^ (r.length+1)=p
  omega
theorem strip_val:∀ l,val (strip l)=val l
 |[]=>rfl
 |[_]=>rfl
 |x :: y :: r=>by
  rw[strip]
  split
  ·rename_i h
   rw[strip_val (y :: r),needless_val h]
  ·rfl
theorem strip_min:∀ l,needless (strip l)=false
 |[]=>rfl
 |[_]=>rfl
 |x :: y :: r=>by
  rw[strip]
  split
  ·exact strip_min (y :: r)
  ·rename_i h
   simpa using h
theorem strip_ne:∀ {l:List Nat},l≠[]→strip l≠[]
 |[_],_=>by simp[strip]
 |x :: y :: r,_=>by
  rw[strip]
  split
  ·exact strip_ne (by simp)
  ·simp
theorem strip_len:∀ l,(strip l).length≤l.length
 |[]=>Nat.le_refl _
 |[_]=>Nat.le_refl _
 |x :: y :: r=>by
  rw[strip]
  split
  ·have:=strip_len (y :: r);simp at this ⊢;omega
  ·exact Nat.le_refl _
theorem strip_mem:∀ {l:List Nat} {x:Nat},x∈strip l→x∈l
 |[],_,h=>h
 |[_],_,h=>h
 |x :: y :: r,z,h=>by
  rw[strip] at h
  split at h
  ·exact List.mem_cons_of_mem _ (strip_mem h)
  ·exact h
theorem val_lo {x:Nat} {r:List Nat} (h:∀ z∈x :: r,z<256) : -(128*256 ^ r.length:Int)≤val (x :: r)∧val (x :: r)<(128*256 ^ r.length:Int):=by
 have h1:=num_lt (l:=r) (fun z hz=>h z (by simp[hz]))
 have h2:=h x (by simp)
 have hp:=pow_pos r.length
 have e:num (x :: r)=x*256 ^ r.length+num r:=rfl
 have hc:((256:Int) ^ r.length)=((256 ^ r.length:Nat):Int):=by simp
 rw[val,e,hc,Nat.pow_succ]
 generalize 256 ^ r.length=p at *
 split
 ·rename_i hx
  have a1:128*p≤x*p:=Nat.mul_le_mul_right _ hx
  have a2:(x+1)*p≤256*p:=Nat.mul_le_mul_right _ h2
  rw[Nat.add_mul,Nat.one_mul] at a2
  generalize x*p=q at *
  omega
 ·rename_i hx
  have a2:(x+1)*p≤128*p:=Nat.mul_le_mul_right _ (by omega)
  rw[Nat.add_mul,Nat.one_mul] at a2
  generalize x*p=q at *
  omega
theorem val_hi {x y:Nat} {r:List Nat} (h:∀ z∈x :: y :: r,z<256) (hm:needless (x :: y :: r)=false):val (x :: y :: r) < -(128*256 ^ r.length:Int)∨(128*256 ^ r.length:Int)≤val (x :: y :: r):=by
 have h1:=num_lt (l:=r) (fun z hz=>h z (by simp[hz]))
 have h2:=h x (by simp)
 have h3:=h y (by simp)
 have hp:=pow_pos r.length
 have e:num (x :: y :: r)=x*256 ^ (r.length+1)+(y*256 ^ r.length+num r):=rfl
 have hc:((256:Int) ^ r.length)=((256 ^ r.length:Nat):Int):=by simp
 rw[needless,Bool.or_eq_false_iff,Bool.and_eq_false_iff,Bool.and_eq_false_iff] at hm
 simp only[decide_eq_false_iff_not] at hm
 obtain ⟨m1,m2⟩:=hm
 rw[val,e,hc,List.length_cons]
 simp only[Nat.pow_succ]
 generalize 256 ^ r.length=p at *
 have ex:x*(p*256)=256*(x*p):=by rw[←Nat.mul_assoc,Nat.mul_comm]
 rw[ex]
 split
 ·rename_i hx
  left
  rcases Nat.lt_or_ge x 255 with hx2|hx2
  ·have a1:(x+1)*p≤255*p:=Nat.mul_le_mul_right _ hx2
   have a2:(y+1)*p≤256*p:=Nat.mul_le_mul_right _ h3
   rw[Nat.add_mul,Nat.one_mul] at a1 a2
   generalize x*p=q at *
   generalize y*p=q2 at *
   omega
  ·obtain rfl:x=255:=by omega
   have hy:y<128:=by rcases m2 with m|m <;> omega
   have a2:(y+1)*p≤128*p:=Nat.mul_le_mul_right _ hy
   rw[Nat.add_mul,Nat.one_mul] at a2
   generalize y*p=q2 at *
   omega
 ·rename_i hx
  right
  rcases Nat.eq_zero_or_pos x with hx2|hx2
  ·subst hx2
   have hy:128≤y:=by rcases m1 with m|m <;> omega
   have a2:128*p≤y*p:=Nat.mul_le_mul_right _ hy
   generalize y*p=q2 at *
   omega
  ·have a1:1*p≤x*p:=Nat.mul_le_mul_right _ hx2
   generalize x*p=q at *
   generalize y*p=q2 at *
   omega
theorem val_be8 (n:Int) (h1 : -9223372036854775808≤n) (h2:n≤9223372036854775807):val (be 8 (u64 n))=n:=by
 have hn:=num_be (u64 n) 8
 have hb:be 8 (u64 n)=u64 n/256 ^ 7%256 :: be 7 (u64 n):=rfl
 have hu:u64 n<18446744073709551616:=by unfold u64;omega
 rw[Nat.mod_eq_of_lt (show u64 n<256 ^ 8 from hu)] at hn
 rw[hb,val,←hb,hn,be_len]
 have hx:u64 n/256 ^ 7%256=u64 n/72057594037927936:=by
  rw[show (256 ^ 7:Nat)=72057594037927936 by decide];omega
 have hk:((256 ^ (7+1):Nat):Int)=18446744073709551616:=by decide
 rw[hx,hk]
 have hv:(u64 n:Int)=n%18446744073709551616:=by unfold u64;omega
 split <;> omega
theorem body_ne (n:Int):body n≠[]:=strip_ne (by simp[be])
theorem body_min (n:Int):needless (body n)=false:=strip_min _
theorem body_lt (n:Int):∀ x∈body n,x<256:=fun _ hx=>be_lt _ 8 _ (strip_mem hx)
theorem body_len (n:Int):(body n).length≤8:=Nat.le_trans (strip_len _) (Nat.le_of_eq (be_len _ 8))
theorem body_val (n:Int) (h1 : -9223372036854775808≤n) (h2:n≤9223372036854775807):val (body n)=n:=by rw[body,strip_val,val_be8 n h1 h2]
def get (l:List Nat):Except Nat Int:=if l=[] then .error 2 else if needless l=true then .error 4 else if 8<l.length then .error 1 else .ok (val l)
theorem get_body (n:Int) (h1 : -9223372036854775808≤n) (h2:n≤9223372036854775807):get (body n)=.ok n:=by
 rw[get,if_neg (body_ne n),if_neg (by rw[body_min];simp),if_neg (Nat.not_lt.2 (body_len n)),body_val n h1 h2]
end Wh
namespace Wh
def digF:Nat→Nat→List Nat
 |0,n=>[48+n%10]
 |f+1,n=>if n<10 then [48+n] else digF f (n/10)++[48+n%10]
def dig (n:Nat):List Nat:=digF 20 n
def pval (l:List Nat):Nat:=l.foldl (fun a c=>a*10+(c-48)) 0
def fig (c:Nat):Bool:=decide (48≤c)&&decide (c≤57)
def figs (l:List Nat):Bool:=decide (1≤l.length)&&decide (l.length≤18)&&l.all fig&&(decide (l.length=1)||decide (l.head?≠some 48))
theorem digF_succ:∀ (f n:Nat),n<10 ^ (f+1)→digF (f+1) n=digF f n
 |0,n,h=>by
  have:n<10:=by simpa using h
  rw[digF,digF,if_pos this,Nat.mod_eq_of_lt this]
 |f+1,n,h=>by
  have h':n/10<10 ^ (f+1):=by rw[Nat.pow_succ] at h;omega
  show (if n<10 then [48+n] else digF (f+1) (n/10)++[48+n%10])=if n<10 then [48+n] else digF f (n/10)++[48+n%10]
  rw[digF_succ f _ h']
theorem dig_small {n:Nat} (h:n<10):dig n=[48+n]:=by rw[dig,digF,if_pos h]
theorem dig_step {n:Nat} (h:10≤n) (hn:n<100000000000000000000):dig n=dig (n/10)++[48+n%10]:=by
 rw[dig,digF,if_neg (by omega),dig,digF_succ 19 _ (by omega)]
theorem pval_snoc (l:List Nat) (c:Nat):pval (l++[c])=pval l*10+(c-48):=by simp[pval]
theorem dig_ind {P:Nat→Prop} (h0:∀ n,n<10→P n) (h1:∀ n,10≤n→n<100000000000000000000→P (n/10)→P n):∀ n,n<100000000000000000000→P n:=by
 intro n
 induction n using Nat.strongRecOn with
 |_ n ih =>
  intro hn
  rcases Nat.lt_or_ge n 10 with h|h
  ·exact h0 n h
  ·exact h1 n h hn (ih (n/10) (by omega) (by omega))
theorem dig_fig (n:Nat) (h:n<100000000000000000000):(dig n).all fig=true:=by
 refine dig_ind (P:=fun n=>(dig n).all fig=true) (fun n hn=>?_) (fun n h10 hn ih=>?_) n h
 ·rw[dig_small hn];simp[fig];omega
 ·rw[dig_step h10 hn,List.all_append,ih];simp[fig];omega
theorem dig_ne (n:Nat):dig n≠[]:=by
 rw[dig,digF]
 split <;> simp
theorem dig_head (n:Nat) (h:n<100000000000000000000):(dig n).length=1∧n<10∨2≤(dig n).length∧10≤n∧(dig n).head?≠some 48:=by
 refine dig_ind (P:=fun n=>(dig n).length=1∧n<10∨2≤(dig n).length∧10≤n∧(dig n).head?≠some 48) (fun n hn=>?_) (fun n h10 hn ih=>?_) n h
 ·left;rw[dig_small hn];exact ⟨rfl,hn⟩
 ·right
  rw[dig_step h10 hn]
  refine ⟨?_,h10,?_⟩
  ·have:=List.length_pos_iff.2 (dig_ne (n/10));simp;omega
  ·rcases ih with ⟨_,h2⟩|⟨_,_,h3⟩
   ·rw[dig_small h2];simp;omega
   ·match hd:dig (n/10),dig_ne (n/10) with
    |x :: r,_=>rw[hd] at h3;simpa using h3
theorem pval_lt:∀ (l:List Nat),l.all fig=true→pval l<10 ^ l.length:=by
 intro l
 induction hk:l.length generalizing l with
 |zero=>rw[List.eq_nil_of_length_eq_zero hk];simp[pval]
 |succ k ih =>
  intro h
  obtain ⟨t,c,rfl⟩:∃ t c,l=t++[c]:=⟨l.dropLast,l.getLast (by intro e;simp[e] at hk),(List.dropLast_concat_getLast _).symm⟩
  rw[List.all_append,Bool.and_eq_true] at h
  have h1:=ih t (by simpa using hk) h.1
  have h2:48≤c∧c≤57:=by simpa [fig] using h.2
  rw[pval_snoc,Nat.pow_succ]
  omega
theorem pval_pos:∀ (l:List Nat),l.all fig=true→l≠[]→l.head?≠some 48→0<pval l:=by
 intro l
 induction hk:l.length generalizing l with
 |zero=>intro _ h;exact absurd (List.eq_nil_of_length_eq_zero hk) h
 |succ k ih =>
  intro h hne hh
  obtain ⟨t,c,rfl⟩:∃ t c,l=t++[c]:=⟨l.dropLast,l.getLast hne,(List.dropLast_concat_getLast _).symm⟩
  rw[List.all_append,Bool.and_eq_true] at h
  have h2:48≤c∧c≤57:=by simpa [fig] using h.2
  rw[pval_snoc]
  match t,h with
  |[],_ =>
   have:c≠48:=by simpa using hh
   simp[pval];omega
  |x :: r,h =>
   have:=ih (x :: r) (by simpa using hk) h.1 (by simp) (by simpa using hh)
   omega
theorem dig_pval:∀ (l:List Nat),l.all fig=true→l≠[]→l.length≤20→(l.length=1∨l.head?≠some 48)→dig (pval l)=l:=by
 intro l
 induction hk:l.length generalizing l with
 |zero=>intro _ h;exact absurd (List.eq_nil_of_length_eq_zero hk) h
 |succ k ih =>
  intro h hne hl hh
  have hlt:=pval_lt l h
  obtain ⟨t,c,rfl⟩:∃ t c,l=t++[c]:=⟨l.dropLast,l.getLast hne,(List.dropLast_concat_getLast _).symm⟩
  rw[List.all_append,Bool.and_eq_true] at h
  have h2:48≤c∧c≤57:=by simpa [fig] using h.2
  have hlt2:pval (t++[c])<100000000000000000000:=Nat.lt_of_lt_of_le hlt (by rw[hk];exact Nat.pow_le_pow_right (by decide) hl)
  rw[pval_snoc] at hlt2 ⊢
  match t,h,hk,hh with
  |[],_,_,_ =>
   rw[show pval []=0 from rfl,dig_small (by omega),show 48+(0*10+(c-48))=c by omega]
   rfl
  |x :: r,h,hk,hh =>
   have hx:(x :: r).head?≠some 48:=by
    rcases hh with hh|hh
    ·simp at hk;omega
    ·simpa using hh
   have hp:=pval_pos (x :: r) h.1 (by simp) hx
   have hi:=ih (x :: r) (by simpa using hk) h.1 (by simp) (by omega) (.inr hx)
   rw[dig_step (by omega) hlt2,show (pval (x :: r)*10+(c-48))/10=pval (x :: r) by omega,hi,show 48+(pval (x :: r)*10+(c-48))%10=c by omega]
theorem figs_iff (l:List Nat):figs l=true↔(1≤l.length∧l.length≤18)∧l.all fig=true∧dig (pval l)=l:=by
 rw[figs,Bool.and_eq_true,Bool.and_eq_true,Bool.and_eq_true,Bool.or_eq_true]
 simp only[decide_eq_true_eq]
 constructor
 ·rintro ⟨⟨⟨h1,h2⟩,h3⟩,h4⟩
  exact ⟨⟨h1,h2⟩,h3,dig_pval l h3 (by intro e;simp[e] at h1) (by omega) h4⟩
 ·rintro ⟨⟨h1,h2⟩,h3,h4⟩
  refine ⟨⟨⟨h1,h2⟩,h3⟩,?_⟩
  have hlt:=pval_lt l h3
  have h20:pval l<100000000000000000000:=Nat.lt_of_lt_of_le hlt (Nat.le_trans (Nat.pow_le_pow_right (by decide) h2) (by decide))
  rcases dig_head (pval l) h20 with ⟨h5,_⟩|⟨_,_,h5⟩
  ·left;rwa [h4] at h5
  ·right;rwa [h4] at h5
end Wh
namespace Od
def right (l:List Int):Bool :=
 decide (2≤l.length)&&decide (l.length≤16)&&decide (0≤l.getD 0 0)&&decide (l.getD 0 0≤2)&&(decide (2≤l.getD 0 0)||decide (l.getD 1 0≤39))&&l.all fun n=>decide (0≤n)&&decide (n≤2147483647)
theorem right_iff (l:List Int):right l=true↔(2≤l.length∧l.length≤16∧0≤l.getD 0 0∧l.getD 0 0≤2∧(2≤l.getD 0 0∨l.getD 1 0≤39))∧∀ n∈l,0≤n∧n≤2147483647:=by
 simp only[right,Bool.and_eq_true,Bool.or_eq_true,decide_eq_true_eq,List.all_eq_true]
 constructor
 ·rintro ⟨⟨⟨⟨⟨h1,h2⟩,h3⟩,h4⟩,h5⟩,h6⟩
  exact ⟨⟨h1,h2,h3,h4,h5⟩,h6⟩
 ·rintro ⟨⟨h1,h2,h3,h4,h5⟩,h6⟩
  exact ⟨⟨⟨⟨⟨h1,h2⟩,h3⟩,h4⟩,h5⟩,h6⟩
def splitA:List Nat→List Nat→List (List Nat)
 |acc,[]=>[acc]
 |acc,c :: r=>if c=46 then acc :: splitA [] r else splitA (acc++[c]) r
def split (l:List Nat):List (List Nat):=splitA [] l
def part (p:List Nat):Option Int:=if Wh.figs p=true∧p.length≤10 then some ((Wh.pval p:Nat):Int) else none
def arcs:List (List Nat)→Option (List Int)
 |[]=>some []
 |p :: r=>match part p,arcs r with
  |some n,some l=>some (n :: l)
  |_,_=>none
def parse (l:List Nat):Except Nat (List Int) :=
 match arcs (split l) with
 |none=>.error 4
 |some a=>if right a=true then .ok a else .error 1
def text:List Int→List Nat
 |[]=>[]
 |[n]=>Wh.dig n.toNat
 |n :: r=>Wh.dig n.toNat++46 :: text r
end Od
namespace Od
theorem parse_ok {s:List Nat} {l:List Int} (h:parse s=.ok l):arcs (split s)=some l∧right l=true:=by
 rw[parse] at h
 split at h
 ·cases h
 ·rename_i a ha
  split at h
  ·rename_i hr
   obtain rfl:=Except.ok.inj h
   exact ⟨ha,hr⟩
  ·cases h
end Od
namespace Cal
def leap (y:Nat):Bool:=decide (y%400=0)||(decide (y%4=0)&&decide (y%100≠0))
def yearLen (y:Nat):Nat:=if leap y=true then 366 else 365
def days (y m:Nat):Nat:=if m=2 then (if leap y=true then 29 else 28) else if m=4∨m=6∨m=9∨m=11 then 30 else if 1≤m∧m≤12 then 31 else 0
def bef:Nat→Nat
 |0=>0
 |k+1=>bef k+yearLen (1970+k)
def ms (y:Nat):Nat→Nat
 |0=>0
 |m+1=>ms y m+days y (m+1)
theorem bef_closed:∀ k,bef k+(k+69)/100=365*k+(k+1)/4+(k+369)/400
 |0=>rfl
 |k+1=>by
  have h:=bef_closed k
  have e:yearLen (1970+k)=if (1970+k)%400=0 then 366 else if (1970+k)%4=0∧(1970+k)%100≠0 then 366 else 365:=by
   unfold yearLen leap
   by_cases h1:(1970+k)%400=0
   ·simp[h1]
   ·by_cases h2:(1970+k)%4=0 <;> by_cases h3:(1970+k)%100=0 <;> simp[h1,h2,h3]
  rw[bef,e]
  split
  ·omega
  ·split <;> omega
theorem yearLen_le (y:Nat):365≤yearLen y∧yearLen y≤366:=by unfold yearLen;split <;> omega
theorem bef_mono {a b:Nat} (h:a<b):bef a+yearLen (1970+a)≤bef b:=by
 induction b with
 |zero=>omega
 |succ b ih =>
  rw[bef]
  rcases Nat.lt_or_ge a b with h1|h1
  ·have:=ih h1;omega
  ·have:a=b:=by omega
   subst this
   omega
theorem ms12 (y:Nat):ms y 12=yearLen y:=by
 unfold yearLen
 by_cases h:leap y=true <;> simp[ms,days,h]
theorem days_pos {y m:Nat} (h1:1≤m) (h2:m≤12):28≤days y m∧days y m≤31:=by
 unfold days
 split
 ·split <;> omega
 ·split
  ·omega
  ·rw[if_pos ⟨h1,h2⟩];omega
theorem ms_mono (y:Nat) {a b:Nat} (h:a<b):ms y a+days y (a+1)≤ms y b:=by
 induction b with
 |zero=>omega
 |succ b ih =>
  rw[ms]
  rcases Nat.lt_or_ge a b with h1|h1
  ·have:=ih h1;omega
  ·have:a=b:=by omega
   subst this
   omega
structure Date where
 Y:Nat
 M:Nat
 D:Nat
 h:Nat
 mi:Nat
 s:Nat
def Right (d:Date):Prop:=(1970≤d.Y∧d.Y≤9999)∧(1≤d.M∧d.M≤12)∧(1≤d.D∧d.D≤days d.Y d.M)∧d.h≤23∧d.mi≤59∧d.s≤59
def dayOf (d:Date):Nat:=bef (d.Y-1970)+ms d.Y (d.M-1)+(d.D-1)
def clock (d:Date):Nat:=(d.h*60+d.mi)*60+d.s
def sec (d:Date):Nat:=dayOf d*86400+clock d
theorem clock_lt {d:Date} (h:Right d):clock d<86400:=by
 obtain ⟨_,_,_,h1,h2,h3⟩:=h
 unfold clock
 omega
theorem dayOf_lt {d:Date} (h:Right d):bef (d.Y-1970)≤dayOf d∧dayOf d<bef (d.Y-1970)+yearLen d.Y∧bef (d.Y-1970)+ms d.Y (d.M-1)≤dayOf d∧dayOf d<bef (d.Y-1970)+ms d.Y d.M:=by
 obtain ⟨_,⟨h1,h2⟩,⟨h3,h4⟩,_⟩:=h
 unfold dayOf
 have e:ms d.Y d.M=ms d.Y (d.M-1)+days d.Y d.M:=by
  obtain ⟨k,hk⟩:∃ k,d.M=k+1:=⟨d.M-1,by omega⟩
  rw[hk]
  rfl
 have e2:ms d.Y d.M≤yearLen d.Y:=by
  rw[←ms12]
  rcases Nat.lt_or_ge d.M 12 with h5|h5
  ·have:=ms_mono d.Y h5;omega
  ·have:d.M=12:=by omega
   rw[this]
   exact Nat.le_refl _
 omega
theorem bef_8030:bef 8030=2932897:=by
 have:=bef_closed 8030
 omega
theorem sec_le {d:Date} (h:Right d):sec d≤253402300799:=by
 have h1:=dayOf_lt h
 have h2:=clock_lt h
 have h3:bef (d.Y-1970)+yearLen d.Y≤bef 8030:=by
  have hY:=h.1
  have:=bef_mono (show d.Y-1970<8030 by omega)
  rw[show 1970+(d.Y-1970)=d.Y by omega] at this
  exact this
 rw[bef_8030] at h3
 unfold sec
 omega
def lt (a b:Date):Prop:=a.Y<b.Y∨a.Y=b.Y∧(a.M<b.M∨a.M=b.M∧(a.D<b.D∨a.D=b.D∧clock a<clock b))
theorem sec_lt {a b:Date} (ha:Right a) (hb:Right b) (h:lt a b):sec a<sec b:=by
 have a1:=dayOf_lt ha
 have b1:=dayOf_lt hb
 have a2:=clock_lt ha
 have b2:=clock_lt hb
 have key:dayOf a<dayOf b∨dayOf a=dayOf b∧clock a<clock b:=by
  rcases h with h|⟨hY,h⟩
  ·left
   have hm:=bef_mono (show a.Y-1970<b.Y-1970 by have:=ha.1;omega)
   rw[show 1970+(a.Y-1970)=a.Y by have:=ha.1;omega] at hm
   omega
  ·rcases h with h|⟨hM,h⟩
   ·left
    have hm:ms a.Y a.M≤ms b.Y (b.M-1):=by
     rw[hY]
     rcases Nat.lt_or_ge a.M (b.M-1) with h5|h5
     ·have:=ms_mono b.Y h5;omega
     ·have:a.M=b.M-1:=by omega
      rw[this]
      exact Nat.le_refl _
    rw[hY] at a1 hm
    omega
   ·rcases h with h|⟨hD,h⟩
    ·left
     unfold dayOf
     rw[hY,hM]
     have:=ha.2.2.1
     omega
    ·right
     refine ⟨?_,h⟩
     unfold dayOf
     rw[hY,hM,hD]
 unfold sec
 rcases key with k|⟨k1,k2⟩ <;> omega
theorem clock_inj {a b:Date} (ha:Right a) (hb:Right b) (h:clock a=clock b):a.h=b.h∧a.mi=b.mi∧a.s=b.s:=by
 obtain ⟨_,_,_,h1,h2,h3⟩:=ha
 obtain ⟨_,_,_,k1,k2,k3⟩:=hb
 unfold clock at h
 omega
theorem trich {a b:Date} (ha:Right a) (hb:Right b):lt a b∨a=b∨lt b a:=by
 unfold lt
 rcases Nat.lt_trichotomy a.Y b.Y with h|h|h
 ·exact .inl (.inl h)
 ·rcases Nat.lt_trichotomy a.M b.M with k|k|k
  ·exact .inl (.inr ⟨h,.inl k⟩)
  ·rcases Nat.lt_trichotomy a.D b.D with l|l|l
   ·exact .inl (.inr ⟨h,.inr ⟨k,.inl l⟩⟩)
   ·rcases Nat.lt_trichotomy (clock a) (clock b) with m|m|m
    ·exact .inl (.inr ⟨h,.inr ⟨k,.inr ⟨l,m⟩⟩⟩)
    ·right;left
     obtain ⟨n1,n2,n3⟩:=clock_inj ha hb m
     cases a;cases b
     simp_all
    ·exact .inr (.inr (.inr ⟨h.symm,.inr ⟨k.symm,.inr ⟨l.symm,m⟩⟩⟩))
   ·exact .inr (.inr (.inr ⟨h.symm,.inr ⟨k.symm,.inl l⟩⟩))
  ·exact .inr (.inr (.inr ⟨h.symm,.inl k⟩))
 ·exact .inr (.inr (.inl h))
theorem sec_inj {a b:Date} (ha:Right a) (hb:Right b) (h:sec a=sec b):a=b:=by
 rcases trich ha hb with k|k|k
 ·have:=sec_lt ha hb k;omega
 ·exact k
 ·have:=sec_lt hb ha k;omega
def yr:Nat→Nat→Nat→Nat×Nat
 |0,y,n=>(y,n)
 |f+1,y,n=>if n<yearLen y then (y,n) else yr f (y+1) (n-yearLen y)
def mo (y:Nat):Nat→Nat→Nat→Nat×Nat
 |0,m,n=>(m,n)
 |f+1,m,n=>if n<days y m then (m,n) else mo y f (m+1) (n-days y m)
theorem yr_of:∀ (f k n:Nat),bef k+n<bef (k+f)→∃ j,k≤j∧j<k+f∧yr f (1970+k) n=(1970+j,bef k+n-bef j)∧bef j≤bef k+n∧bef k+n<bef j+yearLen (1970+j)
 |0,k,n,h=>by rw[Nat.add_zero] at h;omega
 |f+1,k,n,h=>by
  rw[yr]
  split
  ·rename_i hn
   exact ⟨k,by omega,by omega,by rw[Nat.add_sub_cancel_left],by omega,by omega⟩
  ·rename_i hn
   have e:bef (k+1)=bef k+yearLen (1970+k):=rfl
   obtain ⟨j,j1,j2,j3,j4,j5⟩:=yr_of f (k+1) (n-yearLen (1970+k)) (by rw[e,show k+1+f=k+(f+1) by omega];omega)
   rw[e,show bef k+yearLen (1970+k)+(n-yearLen (1970+k))=bef k+n by omega] at j3 j4 j5
   exact ⟨j,by omega,by omega,by rw[show 1970+k+1=1970+(k+1) by omega];exact j3,j4,j5⟩
theorem mo_of (y:Nat):∀ (f m n:Nat),m+f=12→ms y m+n<ms y 12→∃ j,m≤j∧j<12∧mo y f (m+1) n=(j+1,ms y m+n-ms y j)∧ms y j≤ms y m+n∧ms y m+n<ms y j+days y (j+1)
 |0,m,n,hm,h=>by
  have:m=12:=by omega
  subst this
  omega
 |f+1,m,n,hm,h=>by
  rw[mo]
  split
  ·rename_i hn
   exact ⟨m,by omega,by omega,by rw[Nat.add_sub_cancel_left],by omega,by omega⟩
  ·rename_i hn
   have e:ms y (m+1)=ms y m+days y (m+1):=rfl
   obtain ⟨j,j1,j2,j3,j4,j5⟩:=mo_of y f (m+1) (n-days y (m+1)) (by omega) (by rw[e];omega)
   rw[e,show ms y m+days y (m+1)+(n-days y (m+1))=ms y m+n by omega] at j3 j4 j5
   exact ⟨j,by omega,j2,j3,j4,j5⟩
def of (t:Nat):Date :=
 let y:=yr 8030 1970 (t/86400)
 let m:=mo y.1 12 1 y.2
 ⟨y.1,m.1,m.2+1,t/3600%24,t/60%60,t%60⟩
theorem of_right {t:Nat} (h:t≤253402300799):Right (of t)∧sec (of t)=t:=by
 have hb:=bef_8030
 obtain ⟨j,j1,j2,j3,j4,j5⟩:=yr_of 8030 0 (t/86400) (by
  rw[Nat.zero_add,hb]
  show 0+t/86400<2932897
  omega)
 have e0:bef 0=0:=rfl
 rw[e0,Nat.zero_add] at j3 j4 j5
 rw[Nat.add_zero] at j3
 obtain ⟨i,i1,i2,i3,i4,i5⟩:=mo_of (1970+j) 12 0 (t/86400-bef j) rfl (by rw[ms12];show 0+_<_;omega)
 have e1:ms (1970+j) 0=0:=rfl
 rw[e1,Nat.zero_add] at i3 i4 i5
 have ho:of t=⟨1970+j,i+1,t/86400-bef j-ms (1970+j) i+1,t/3600%24,t/60%60,t%60⟩:=by
  unfold of
  simp only[j3,i3,Nat.zero_add]
 rw[ho]
 have hr:Right ⟨1970+j,i+1,t/86400-bef j-ms (1970+j) i+1,t/3600%24,t/60%60,t%60⟩:=by
  refine ⟨⟨?_,?_⟩,⟨?_,?_⟩,⟨?_,?_⟩,?_,?_,?_⟩
  all_goals simp only[]
  all_goals omega
 refine ⟨hr,?_⟩
 unfold sec dayOf clock
 simp only[]
 rw[show 1970+j-1970=j by omega,show i+1-1=i by omega]
 omega
theorem of_sec {d:Date} (h:Right d):of (sec d)=d:=by
 obtain ⟨h1,h2⟩:=of_right (sec_le h)
 exact sec_inj h1 h h2
end Cal
namespace Cal
def two (n:Nat):List Nat:=[48+n/10,48+n%10]
def text (d:Date):List Nat:=two (d.Y/100)++(two (d.Y%100)++(two d.M++(two d.D++(two d.h++(two d.mi++(two d.s++[90]))))))
def lex:List Nat→List Nat→Bool
 |[],[]=>false
 |[],_ :: _=>true
 |_ :: _,[]=>false
 |x :: r,y :: s=>if x=y then lex r s else decide (x<y)
theorem text_len (d:Date):(text d).length=15:=rfl
def fig (c:Nat):Bool:=decide (48≤c)&&decide (c≤57)
def num2 (l:List Nat) (i:Nat):Nat:=(l.getD i 0-48)*10+(l.getD (i+1) 0-48)
def dateOf (l:List Nat):Date:=⟨num2 l 0*100+num2 l 2,num2 l 4,num2 l 6,num2 l 8,num2 l 10,num2 l 12⟩
instance (d:Date):Decidable (Right d):=by unfold Right;infer_instance
def get (l:List Nat):Except Nat Nat :=
 if l.length≠15∨l.getD 14 0≠90∨(l.take 14).all fig=false then .error 4 else if Right (dateOf l) then .ok (sec (dateOf l)) else .error 1
theorem dateOf_text {d:Date} (h:Right d):dateOf (text d)=d∧((text d).take 14).all fig=true:=by
 obtain ⟨⟨a1,a2⟩,⟨a3,a4⟩,⟨a5,a6⟩,a7,a8,a9⟩:=h
 have a10:=(days_pos (y:=d.Y) a3 a4).2
 have e:text d=[48+d.Y/100/10,48+d.Y/100%10,48+d.Y%100/10,48+d.Y%100%10,48+d.M/10,48+d.M%10,48+d.D/10,48+d.D%10,48+d.h/10,48+d.h%10,48+d.mi/10,48+d.mi%10,48+d.s/10,48+d.s%10,90]:=rfl
 constructor
 ·obtain ⟨Y,M,D,h,mi,s⟩:=d
  simp only at a1 a2 a3 a4 a7 a8 a9 a10 a6
  rw[e]
  simp only[dateOf,num2,List.getD_cons_zero,List.getD_cons_succ]
  congr 1 <;> omega
 ·rw[e]
  simp only[List.take_succ_cons,List.take_zero,List.all_cons,List.all_nil,fig,Bool.and_eq_true,decide_eq_true_eq,Bool.and_true]
  omega
theorem get_text {d:Date} (h:Right d):get (text d)=.ok (sec d):=by
 obtain ⟨h1,h2⟩:=dateOf_text h
 rw[get,if_neg,h1,if_pos h]
 rw[h2]
 simp[text_len]
 rfl
end Cal
namespace Pt
def rev8 (x:Nat):Nat:=x/128%2+x/64%2*2+x/32%2*4+x/16%2*8+x/8%2*16+x/4%2*32+x/2%2*64+x%2*128
theorem rev8_lt (x:Nat):rev8 x<256:=by unfold rev8;omega
def size (n:Nat):Nat:=if n=0 then 0 else n.log2+1
theorem size_lt (n:Nat):n<2 ^ size n:=by
 unfold size
 split
 ·subst_vars;decide
 ·exact Nat.lt_log2_self
theorem size_le {n:Nat} (h:n≠0):2 ^ (size n-1)≤n:=by
 unfold size
 rw[if_neg h,Nat.add_sub_cancel]
 exact Nat.log2_self_le h
theorem size_pos {n:Nat} (h:n≠0):0<size n:=by unfold size;rw[if_neg h];exact Nat.succ_pos _
theorem size_is {n k:Nat} (h1:2 ^ k≤n) (h2:n<2 ^ (k+1)):size n=k+1:=by
 have hn:n≠0:=by have:=Nat.pow_pos (n:=k) (show 0<2 by decide);omega
 have a:=size_lt n
 have b:=size_le hn
 have c:=size_pos hn
 have d:k<size n:=(Nat.pow_lt_pow_iff_right (by decide)).1 (Nat.lt_of_le_of_lt h1 a)
 have e:size n-1<k+1:=(Nat.pow_lt_pow_iff_right (by decide)).1 (Nat.lt_of_le_of_lt b h2)
 omega
theorem size_le_of {n k:Nat} (h:n<2 ^ k):size n≤k:=by
 rcases Nat.eq_zero_or_pos n with h0|h0
 ·subst h0;simp[size]
 ·have:=size_le (n:=n) (by omega)
  have:size n-1<k:=(Nat.pow_lt_pow_iff_right (by decide)).1 (Nat.lt_of_le_of_lt this h)
  omega
def flags (m:Nat):List Nat:=if m=0 then [0] else if m<256 then [8-size m,rev8 m] else [16-size m,rev8 (m%256),rev8 (m/256)]
def mask:List Nat→Except Nat Nat
 |[]=>.error 2
 |[u]=>if u=0 then .ok 0 else .error 4
 |[u,x]=>if u≤7∧2 ^ (7-u)≤rev8 x∧rev8 x<2 ^ (8-u) then .ok (rev8 x) else .error 4
 |[u,x,y]=>if u≤7∧2 ^ (15-u)≤rev8 x+256*rev8 y∧rev8 x+256*rev8 y<2 ^ (16-u) then (if rev8 x+256*rev8 y<32768 then .ok (rev8 x+256*rev8 y) else .error 1) else .error 4
 |_=>.error 4
theorem flags_lt (m:Nat) (hm:m<32768):∀ x∈flags m,x<256:=by
 intro x hx
 unfold flags at hx
 have:=rev8_lt m;have:=rev8_lt (m%256);have:=rev8_lt (m/256)
 split at hx
 ·simp at hx;omega
 ·split at hx
  ·simp at hx;omega
  ·simp at hx;omega
theorem flags_len (m:Nat):(flags m).length≤3:=by unfold flags;split;simp;split <;> simp
end Pt
namespace Pt
theorem lex_irr:∀ a,Cal.lex a a=false
 |[]=>rfl
 |x :: r=>by rw[Cal.lex,if_pos rfl];exact lex_irr r
theorem lex_trans:∀ a b c,Cal.lex a b=true→Cal.lex b c=true→Cal.lex a c=true
 |[],[],_,h,_=>by simp[Cal.lex] at h
 |[],_ :: _,[],_,h=>by simp[Cal.lex] at h
 |[],_ :: _,_ :: _,_,_=>rfl
 |_ :: _,[],_,h,_=>by simp[Cal.lex] at h
 |_ :: _,_ :: _,[],_,h=>by simp[Cal.lex] at h
 |x :: r,y :: s,z :: t,h1,h2=>by
  rw[Cal.lex] at h1 h2 ⊢
  by_cases e1:x=y
  ·subst e1
   rw[if_pos rfl] at h1
   by_cases e2:x=z
   ·subst e2
    rw[if_pos rfl] at h2 ⊢
    exact lex_trans r s t h1 h2
   ·rw[if_neg e2] at h2 ⊢;exact h2
  ·rw[if_neg e1,decide_eq_true_eq] at h1
   by_cases e2:y=z
   ·subst e2
    rw[if_neg (by omega),decide_eq_true_eq];exact h1
   ·rw[if_neg e2,decide_eq_true_eq] at h2
    rw[if_neg (by omega),decide_eq_true_eq];omega
theorem lex_tri:∀ a b,Cal.lex a b=true∨a=b∨Cal.lex b a=true
 |[],[]=>.inr (.inl rfl)
 |[],_ :: _=>.inl rfl
 |_ :: _,[]=>.inr (.inr rfl)
 |x :: r,y :: s=>by
  by_cases e:x=y
  ·subst e
   rcases lex_tri r s with h|h|h
   ·left;rw[Cal.lex,if_pos rfl];exact h
   ·right;left;rw[h]
   ·right;right;rw[Cal.lex,if_pos rfl];exact h
  ·rcases Nat.lt_or_gt_of_ne e with h|h
   ·left;rw[Cal.lex,if_neg e,decide_eq_true_eq];exact h
   ·right;right;rw[Cal.lex,if_neg (fun e'=>e e'.symm),decide_eq_true_eq];exact h
def le (a b:List Nat):Prop:=Cal.lex b a=false
instance (a b:List Nat):Decidable (le a b):=by unfold le;infer_instance
theorem le_refl (a:List Nat):le a a:=lex_irr a
theorem le_of_lt {a b:List Nat} (h:Cal.lex a b=true):le a b:=by
 unfold le
 rw[←Bool.not_eq_true]
 intro h2
 have:=lex_trans _ _ _ h h2
 rw[lex_irr] at this
 cases this
theorem le_trans {a b c:List Nat} (h1:le a b) (h2:le b c):le a c:=by
 unfold le at *
 rcases lex_tri a b with h|h|h
 ·rcases lex_tri b c with k|k|k
  ·exact le_of_lt (lex_trans _ _ _ h k)
  ·subst k;exact h1
  ·rw[k] at h2;cases h2
 ·subst h;exact h2
 ·rw[h] at h1;cases h1
theorem le_anti {a b:List Nat} (h1:le a b) (h2:le b a):a=b:=by
 unfold le at *
 rcases lex_tri a b with h|h|h
 ·rw[h] at h2;cases h2
 ·exact h
 ·rw[h] at h1;cases h1
def ins (x:List Nat):List (List Nat)→List (List Nat)
 |[]=>[x]
 |y :: r=>if Cal.lex x y=true then x :: y :: r else y :: ins x r
def sort:List (List Nat)→List (List Nat)
 |[]=>[]
 |x :: r=>ins x (sort r)
def Sorted (l:List (List Nat)):Prop:=l.Pairwise le
theorem ins_perm (x:List Nat):∀ l,(ins x l).Perm (x :: l)
 |[]=>List.Perm.refl _
 |y :: r=>by
  rw[ins]
  split
  ·exact List.Perm.refl _
  ·exact ((ins_perm x r).cons y).trans (List.Perm.swap x y r)
theorem ins_sorted (x:List Nat):∀ l,Sorted l→Sorted (ins x l)
 |[],_=>by simp[ins,Sorted]
 |y :: r,h=>by
  rw[ins]
  have h':=List.pairwise_cons.1 h
  split
  ·rename_i hlt
   refine List.pairwise_cons.2 ⟨fun z hz=>?_,h⟩
   rcases List.mem_cons.1 hz with e|hz
   ·subst e;exact le_of_lt hlt
   ·exact le_trans (le_of_lt hlt) (h'.1 z hz)
  ·rename_i hlt
   refine List.pairwise_cons.2 ⟨fun z hz=>?_,ins_sorted x r h'.2⟩
   rcases List.mem_cons.1 ((ins_perm x r).mem_iff.1 hz) with e|hz
   ·subst e
    unfold le
    rw[←Bool.not_eq_true]
    exact hlt
   ·exact h'.1 z hz
theorem sort_perm:∀ l,(sort l).Perm l
 |[]=>List.Perm.refl _
 |x :: r=>(ins_perm x (sort r)).trans ((sort_perm r).cons x)
theorem sort_sorted:∀ l,Sorted (sort l)
 |[]=>List.Pairwise.nil
 |x :: r=>ins_sorted x _ (sort_sorted r)
theorem sorted_unique {a b:List (List Nat)} (ha:Sorted a) (hb:Sorted b) (h:a.Perm b):a=b :=
 List.Perm.eq_of_pairwise (le:=le) (fun _ _ _ _ h1 h2=>le_anti h1 h2) ha hb h
theorem sort_is {a l:List (List Nat)} (ha:Sorted a) (h:a.Perm l):sort l=a:=sorted_unique (sort_sorted l) ha ((sort_perm l).trans h.symm)
theorem sort_len (l:List (List Nat)):(sort l).length=l.length:=(sort_perm l).length_eq
theorem sort_mem {l:List (List Nat)} {x:List Nat}:x∈sort l↔x∈l:=(sort_perm l).mem_iff
theorem sort_snoc {l A B:List (List Nat)} {x:List Nat} (h:sort l=A++B) (hA:A=[]∨∃ Z z,A=Z++[z]∧le z x) (hB:∀ y∈B,Cal.lex x y=true):sort (l++[x])=A++x :: B:=by
 have hs:=sort_sorted l
 rw[h] at hs
 obtain ⟨s1,s2,s3⟩:=List.pairwise_append.1 hs
 have hA2:∀ y∈A,le y x:=by
  intro y hy
  rcases hA with e|e
  ·subst e;cases hy
  ·obtain ⟨Z,z,rfl,e⟩:=e
   rcases List.mem_append.1 hy with hy|hy
   ·exact le_trans ((List.pairwise_append.1 s1).2.2 y hy z (by simp)) e
   ·rw[List.mem_singleton] at hy;subst hy;exact e
 refine sort_is ?_ ?_
 ·refine List.pairwise_append.2 ⟨s1,List.pairwise_cons.2 ⟨fun y hy=>le_of_lt (hB y hy),s2⟩,fun a ha b hb=>?_⟩
  rcases List.mem_cons.1 hb with e|hb
  ·subst e;exact hA2 a ha
  ·exact s3 a ha b hb
 ·have h1:(A++x :: B).Perm (x :: (A++B)):=List.perm_middle
  have h2:(l++[x]).Perm (x :: l):=List.perm_append_comm
  refine h1.trans ((List.Perm.cons x ?_).trans h2.symm)
  rw[←h]
  exact sort_perm l
end Pt
namespace Cal
theorem tmod_zero (y k:Int) (hk:0<k):y.tmod k=0↔y%k=0:=by
 rw[←Int.dvd_iff_tmod_eq_zero,←Int.dvd_iff_emod_eq_zero]
def leapI (y:Int):Bool:=decide (y%400=0)||(decide (y%4=0)&&decide (y%100≠0))
theorem leapI_nat (y:Nat):leapI y=leap y:=by
 unfold leapI leap
 have e1:((y:Int)%400=0)=(y%400=0):=by rw[eq_iff_iff];omega
 have e2:((y:Int)%4=0)=(y%4=0):=by rw[eq_iff_iff];omega
 have e3:((y:Int)%100≠0)=(y%100≠0):=by rw[eq_iff_iff];omega
 simp only[e1,e2,e3]
def daysI (y m:Int):Nat:=if m<1∨12<m then 0 else if m=2 then (if leapI y=true then 29 else 28) else if m=4∨m=6∨m=9∨m=11 then 30 else 31
theorem daysI_nat (y m:Nat):daysI y m=days y m:=by
 unfold daysI days
 rw[leapI_nat]
 by_cases h2:m=2
 ·subst h2;simp
 ·rw[if_neg (show ¬ (m:Int)=2 by omega),if_neg h2]
  by_cases h4:m=4∨m=6∨m=9∨m=11
  ·rw[if_pos h4,if_pos (show (m:Int)=4∨(m:Int)=6∨(m:Int)=9∨(m:Int)=11 by omega),if_neg (by omega)]
  ·rw[if_neg h4,if_neg (show ¬ ((m:Int)=4∨(m:Int)=6∨(m:Int)=9∨(m:Int)=11) by omega)]
   by_cases h:1≤m∧m≤12
   ·rw[if_pos h,if_neg (by omega)]
   ·rw[if_neg h,if_pos (by omega)]
theorem daysI_le (y m:Int):daysI y m≤31:=by
 unfold daysI
 split
 ·omega
 ·split
  ·split <;> omega
  ·split <;> omega
structure DI where
 Y:Int
 M:Int
 D:Int
 h:Int
 mi:Int
 s:Int
def DI.toD (d:DI):Date:=⟨d.Y.toNat,d.M.toNat,d.D.toNat,d.h.toNat,d.mi.toNat,d.s.toNat⟩
def Date.toI (d:Date):DI:=⟨d.Y,d.M,d.D,d.h,d.mi,d.s⟩
def rightI (d:DI):Bool:=decide (1970≤d.Y)&&decide (d.Y≤9999)&&decide (1≤d.M)&&decide (d.M≤12)&&decide (1≤d.D)&&decide (d.D≤(daysI d.Y d.M:Nat))&&decide (0≤d.h)&&decide (d.h≤23)&&decide (0≤d.mi)&&decide (d.mi≤59)&&decide (0≤d.s)&&decide (d.s≤59)
theorem rightI_iff (d:DI):rightI d=true↔(1970≤d.Y∧d.Y≤9999)∧(1≤d.M∧d.M≤12)∧(1≤d.D∧d.D≤(daysI d.Y d.M:Nat))∧(0≤d.h∧d.h≤23)∧(0≤d.mi∧d.mi≤59)∧(0≤d.s∧d.s≤59):=by
 simp only[rightI,Bool.and_eq_true,decide_eq_true_eq]
 constructor
 ·rintro ⟨⟨⟨⟨⟨⟨⟨⟨⟨⟨⟨h1,h2⟩,h3⟩,h4⟩,h5⟩,h6⟩,h7⟩,h8⟩,h9⟩,h10⟩,h11⟩,h12⟩
  exact ⟨⟨h1,h2⟩,⟨h3,h4⟩,⟨h5,h6⟩,⟨h7,h8⟩,⟨h9,h10⟩,h11,h12⟩
 ·rintro ⟨⟨h1,h2⟩,⟨h3,h4⟩,⟨h5,h6⟩,⟨h7,h8⟩,⟨h9,h10⟩,h11,h12⟩
  exact ⟨⟨⟨⟨⟨⟨⟨⟨⟨⟨⟨h1,h2⟩,h3⟩,h4⟩,h5⟩,h6⟩,h7⟩,h8⟩,h9⟩,h10⟩,h11⟩,h12⟩
theorem right_of {d:DI} (h:rightI d=true):Right d.toD∧d.toD.toI=d:=by
 obtain ⟨⟨h1,h2⟩,⟨h3,h4⟩,⟨h5,h6⟩,⟨h7,h8⟩,⟨h9,h10⟩,h11,h12⟩:=(rightI_iff d).1 h
 obtain ⟨Y,M,D,hh,mi,s⟩:=d
 simp only at h1 h2 h3 h4 h5 h6 h7 h8 h9 h10 h11 h12
 obtain ⟨y,rfl⟩:∃ y:Nat,Y=y:=⟨Y.toNat,by omega⟩
 obtain ⟨m,rfl⟩:∃ y:Nat,M=y:=⟨M.toNat,by omega⟩
 rw[daysI_nat] at h6
 refine ⟨⟨⟨?_,?_⟩,⟨?_,?_⟩,⟨?_,?_⟩,?_,?_,?_⟩,?_⟩
 ·simp only[DI.toD,Int.toNat_natCast];omega
 ·simp only[DI.toD,Int.toNat_natCast];omega
 ·simp only[DI.toD,Int.toNat_natCast];omega
 ·simp only[DI.toD,Int.toNat_natCast];omega
 ·simp only[DI.toD];omega
 ·show D.toNat≤days y m;omega
 ·simp only[DI.toD];omega
 ·simp only[DI.toD];omega
 ·simp only[DI.toD];omega
 ·simp only[DI.toD,Date.toI,Int.toNat_natCast,DI.mk.injEq,true_and]
  omega
theorem rightI_of {d:Date} (h:Right d):rightI d.toI=true∧d.toI.toD=d:=by
 obtain ⟨⟨h1,h2⟩,⟨h3,h4⟩,⟨h5,h6⟩,h7,h8,h9⟩:=h
 refine ⟨(rightI_iff _).2 ?_,rfl⟩
 simp only[Date.toI,daysI_nat]
 omega
end Cal
namespace Pt
def step (l:List Nat):Option Nat :=
 if Lib.decodeN l.length (l.getD 0 0) (l.getD 1 0) (l.getD 2 0) (l.getD 3 0)=(65533,1) then none
 else if (Lib.decodeN l.length (l.getD 0 0) (l.getD 1 0) (l.getD 2 0) (l.getD 3 0)).1<32∨(Lib.decodeN l.length (l.getD 0 0) (l.getD 1 0) (l.getD 2 0) (l.getD 3 0)).1=127 then none
 else some (Lib.decodeN l.length (l.getD 0 0) (l.getD 1 0) (l.getD 2 0) (l.getD 3 0)).2
def plainF:Nat→List Nat→Bool
 |0,_=>true
 |f+1,l=>if l=[] then true else match step l with
  |none=>false
  |some k=>plainF f (l.drop k)
def plain (l:List Nat):Bool:=plainF l.length l
theorem step1 (l:List Nat) (h:l.getD 0 0<128):step l=if l.getD 0 0<32∨l.getD 0 0=127 then none else some 1:=by
 have e:∀ n b1 b2 b3,Lib.decodeN n (l.getD 0 0) b1 b2 b3=(l.getD 0 0,1):=fun n b1 b2 b3=>by rw[Lib.decodeN,if_pos h]
 rw[step,e,if_neg (by intro h2;have:=(Prod.mk.inj h2).1;omega)]
theorem dec2 (n b0 b1 b2 b3:Nat) (h1:192≤b0) (h2:b0<224):Lib.decodeN n b0 b1 b2 b3=if 1<n∧(128≤b1∧b1≤191)∧128≤(b0-192)*64+(b1-128) then ((b0-192)*64+(b1-128),2) else (65533,1):=by
 rw[Lib.decodeN,if_neg (by omega)]
 by_cases hc:1<n∧b1/64=2
 ·rw[if_pos (⟨by omega,hc⟩:b0/32=6∧_)]
  by_cases hv:b0%32*64+b1%64 ≥ 128
  ·rw[if_pos hv,if_pos (by omega),Prod.mk.injEq];omega
  ·rw[if_neg hv,if_neg (by omega)]
 ·rw[if_neg (by omega),if_neg (by omega),if_neg (by omega),if_neg (by omega)]
theorem dec3 (n b0 b1 b2 b3:Nat) (h1:224≤b0) (h2:b0<240):Lib.decodeN n b0 b1 b2 b3=if 2<n∧(128≤b1∧b1≤191)∧(128≤b2∧b2≤191)∧2048≤((b0-224)*64+(b1-128))*64+(b2-128)∧¬ (55296≤((b0-224)*64+(b1-128))*64+(b2-128)∧((b0-224)*64+(b1-128))*64+(b2-128)<57344) then (((b0-224)*64+(b1-128))*64+(b2-128),3) else (65533,1):=by
 rw[Lib.decodeN,if_neg (by omega),if_neg (by omega)]
 by_cases hc:(1<n∧b1/64=2)∧(2<n∧b2/64=2)
 ·rw[if_pos (⟨by omega,hc⟩:b0/16=14∧_)]
  by_cases hv:b0%16*4096+b1%64*64+b2%64 ≥ 2048∧(b0%16*4096+b1%64*64+b2%64<55296∨(57344≤b0%16*4096+b1%64*64+b2%64∧b0%16*4096+b1%64*64+b2%64≤1114111))
  ·rw[if_pos hv,if_pos (by omega),Prod.mk.injEq];omega
  ·rw[if_neg hv,if_neg (by omega)]
 ·rw[if_neg (by omega),if_neg (by omega),if_neg (by omega)]
theorem dec4 (n b0 b1 b2 b3:Nat) (h1:240≤b0) (h2:b0<248):Lib.decodeN n b0 b1 b2 b3=if 3<n∧(128≤b1∧b1≤191)∧(128≤b2∧b2≤191)∧(128≤b3∧b3≤191)∧65536≤(((b0-240)*64+(b1-128))*64+(b2-128))*64+(b3-128)∧(((b0-240)*64+(b1-128))*64+(b2-128))*64+(b3-128)≤1114111 then ((((b0-240)*64+(b1-128))*64+(b2-128))*64+(b3-128),4) else (65533,1):=by
 rw[Lib.decodeN,if_neg (by omega),if_neg (by omega),if_neg (by omega)]
 by_cases hc:(1<n∧b1/64=2)∧(2<n∧b2/64=2)∧(3<n∧b3/64=2)
 ·rw[if_pos (⟨by omega,hc⟩:b0/8=30∧_)]
  by_cases hv:b0%8*262144+b1%64*4096+b2%64*64+b3%64 ≥ 65536∧(b0%8*262144+b1%64*4096+b2%64*64+b3%64<55296∨(57344≤b0%8*262144+b1%64*4096+b2%64*64+b3%64∧b0%8*262144+b1%64*4096+b2%64*64+b3%64≤1114111))
  ·rw[if_pos hv,if_pos (by omega),Prod.mk.injEq];omega
  ·rw[if_neg hv,if_neg (by omega)]
 ·rw[if_neg (by omega),if_neg (by omega)]
theorem step_ok {l:List Nat} {v k:Nat} {c:Prop} [Decidable c] (h:Lib.decodeN l.length (l.getD 0 0) (l.getD 1 0) (l.getD 2 0) (l.getD 3 0)=if c then (v,k) else (65533,1)) (hk:k≠1) (hv:c→128≤v):step l=if c then some k else none:=by
 rw[step,h]
 by_cases hc:c
 ·rw[if_pos hc,if_pos hc,if_neg (by intro e;exact hk (Prod.mk.inj e).2),if_neg (by have:=hv hc;simp only;omega)]
 ·rw[if_neg hc,if_neg hc,if_pos rfl]
theorem step2 (l:List Nat) (h1:192≤l.getD 0 0) (h2:l.getD 0 0<224) :
  step l=if 1<l.length∧(128≤l.getD 1 0∧l.getD 1 0≤191)∧128≤(l.getD 0 0-192)*64+(l.getD 1 0-128) then some 2 else none :=
 step_ok (dec2 _ _ _ _ _ h1 h2) (by decide) (fun h=>h.2.2)
theorem step3 (l:List Nat) (h1:224≤l.getD 0 0) (h2:l.getD 0 0<240) :
  step l=if 2<l.length∧(128≤l.getD 1 0∧l.getD 1 0≤191)∧(128≤l.getD 2 0∧l.getD 2 0≤191)∧2048≤((l.getD 0 0-224)*64+(l.getD 1 0-128))*64+(l.getD 2 0-128) ∧
   ¬ (55296≤((l.getD 0 0-224)*64+(l.getD 1 0-128))*64+(l.getD 2 0-128)∧((l.getD 0 0-224)*64+(l.getD 1 0-128))*64+(l.getD 2 0-128)<57344) then some 3 else none :=
 step_ok (dec3 _ _ _ _ _ h1 h2) (by decide) (fun h=>by omega)
theorem step4 (l:List Nat) (h1:240≤l.getD 0 0) (h2:l.getD 0 0<248) :
  step l=if 3<l.length∧(128≤l.getD 1 0∧l.getD 1 0≤191)∧(128≤l.getD 2 0∧l.getD 2 0≤191)∧(128≤l.getD 3 0∧l.getD 3 0≤191)∧65536≤(((l.getD 0 0-240)*64+(l.getD 1 0-128))*64+(l.getD 2 0-128))*64+(l.getD 3 0-128) ∧
   (((l.getD 0 0-240)*64+(l.getD 1 0-128))*64+(l.getD 2 0-128))*64+(l.getD 3 0-128)≤1114111 then some 4 else none :=
 step_ok (dec4 _ _ _ _ _ h1 h2) (by decide) (fun h=>by omega)
theorem stepX (l:List Nat) (h:(128≤l.getD 0 0∧l.getD 0 0<192)∨248≤l.getD 0 0) (h2:l.getD 0 0<256):step l=none:=by
 generalize hb0:l.getD 0 0=b0 at *
 have e:Lib.decodeN l.length b0 (l.getD 1 0) (l.getD 2 0) (l.getD 3 0)=(65533,1):=by
  rw[Lib.decodeN,if_neg (by omega),if_neg (by omega),if_neg (by omega),if_neg (by omega)]
 rw[step,hb0,e,if_pos rfl]
theorem step_le {l:List Nat} {k:Nat} (hl:l≠[]) (h8:l.getD 0 0<256) (h:step l=some k):1≤k∧k≤l.length:=by
 have hp:0<l.length:=by cases l with|nil=>exact absurd rfl hl|cons x r=>simp
 rcases Nat.lt_or_ge (l.getD 0 0) 128 with c|c
 ·rw[step1 l c] at h;split at h <;> cases h;omega
 ·rcases Nat.lt_or_ge (l.getD 0 0) 192 with c2|c2
  ·rw[stepX l (.inl ⟨c,c2⟩) h8] at h;cases h
  ·rcases Nat.lt_or_ge (l.getD 0 0) 224 with c3|c3
   ·rw[step2 l c2 c3] at h;split at h <;> cases h;omega
   ·rcases Nat.lt_or_ge (l.getD 0 0) 240 with c4|c4
    ·rw[step3 l c3 c4] at h;split at h <;> cases h;omega
    ·rcases Nat.lt_or_ge (l.getD 0 0) 248 with c5|c5
     ·rw[step4 l c4 c5] at h;split at h <;> cases h;omega
     ·rw[stepX l (.inr c5) h8] at h;cases h
theorem plainF_nil (f:Nat):plainF f []=true:=by cases f <;> simp[plainF]
theorem plainF_fuel:∀ (f g:Nat) (l:List Nat),(∀ x∈l,x<256)→l.length≤f→l.length≤g→plainF f l=plainF g l
 |0,g,l,_,hf,_=>by
  obtain rfl:=List.eq_nil_of_length_eq_zero (Nat.le_zero.1 hf)
  rw[plainF_nil,plainF_nil]
 |f+1,0,l,_,_,hg=>by
  obtain rfl:=List.eq_nil_of_length_eq_zero (Nat.le_zero.1 hg)
  rw[plainF_nil,plainF_nil]
 |f+1,g+1,l,h8,hf,hg=>by
  rw[plainF,plainF]
  by_cases hl:l=[]
  ·rw[if_pos hl,if_pos hl]
  ·rw[if_neg hl,if_neg hl]
   cases hs:step l with
   |none=>rfl
   |some k =>
    have hk:=step_le hl (by
     have hp:0<l.length:=by cases l with|nil=>exact absurd rfl hl|cons x r=>simp
     rw[List.getD_eq_getElem?_getD,List.getElem?_eq_getElem hp]
     exact h8 _ (List.getElem_mem hp)) hs
    exact plainF_fuel f g (l.drop k) (fun x hx=>h8 x (List.mem_of_mem_drop hx)) (by rw[List.length_drop];omega) (by rw[List.length_drop];omega)
theorem plain_step {l:List Nat} (h8:∀ x∈l,x<256) (hl:l≠[]):plain l=match step l with
  |none=>false
  |some k=>plain (l.drop k):=by
 have hp:0<l.length:=by cases l with|nil=>exact absurd rfl hl|cons x r=>simp
 have h0:l.getD 0 0<256:=by
  rw[List.getD_eq_getElem?_getD,List.getElem?_eq_getElem hp];exact h8 _ (List.getElem_mem hp)
 obtain ⟨n,hn⟩:∃ n,l.length=n+1:=⟨l.length-1,by omega⟩
 have e:plain l=plainF (n+1) l:=by rw[plain,hn]
 rw[e,plainF,if_neg hl]
 cases hs:step l with
 |none=>rfl
 |some k =>
  have hk:=step_le hl h0 hs
  exact plainF_fuel n _ _ (fun x hx=>h8 x (List.mem_of_mem_drop hx)) (by rw[List.length_drop];omega) (Nat.le_refl _)
def okc (c:Nat):Bool:=(decide (97≤c)&&decide (c≤122))||((decide (48≤c)&&decide (c≤57))||decide (c=45))
def label (l:List Nat):Bool:=decide (1≤l.length∧l.length≤24)&&(decide (l.getD 0 0≠45)&&(decide (l.getD (l.length-1) 0≠45)&&l.all okc))
def asked (l:List Nat) (most:Int):Nat:=if l.length=0 then 2 else if most<(l.length:Int) then 3 else if plain l=true then 0 else 8
end Pt
namespace Pt
def nums (l:List UInt8):List Nat:=l.map (·.toNat)
theorem nums_len (l:List UInt8):(nums l).length=l.length:=by rw[nums,List.length_map]
theorem nums_at (l:List UInt8) (i:Nat):(nums l).getD i 0=(l.getD i 0).toNat:=by
 rw[List.getD_eq_getElem?_getD,List.getD_eq_getElem?_getD,nums,List.getElem?_map]
 cases l[i]? <;> rfl
theorem nums_lt (l:List UInt8):∀ x∈nums l,x<256:=by
 intro x hx
 obtain ⟨b,_,rfl⟩:=List.mem_map.1 hx
 exact b.toNat_lt
theorem nums_drop (l:List UInt8) (k:Nat):(nums l).drop k=nums (l.drop k):=by rw[nums,nums,List.map_drop]
theorem step_decode (l:List UInt8):step (nums l)=if Lib.decodeL l=(65533,1) then none else if (Lib.decodeL l).1<32∨(Lib.decodeL l).1=127 then none else some (Lib.decodeL l).2:=by
 rw[step,nums_at,nums_at,nums_at,nums_at,nums_len,Lib.decodeL_N]
theorem plain_decode (l:List UInt8) (hne:l≠[]) (hv:Lib.validD l=true) :
  plain (nums l)=(if (Lib.decodeL l).1<32∨(Lib.decodeL l).1=127 then false else plain (nums (l.drop (Lib.decodeL l).2)))∧Lib.validD (l.drop (Lib.decodeL l).2)=true:=by
 rw[Lib.validD_step l hne] at hv
 split at hv
 ·cases hv
 ·rename_i hb
  have hb2:Lib.decodeL l≠(65533,1):=fun e=>hb (by rw[e];exact ⟨rfl,rfl⟩)
  refine ⟨?_,hv⟩
  rw[plain_step (nums_lt l) (by intro e;exact hne (List.map_eq_nil_iff.1 e)),step_decode,if_neg hb2]
  by_cases hc:(Lib.decodeL l).1<32∨(Lib.decodeL l).1=127
  ·rw[if_pos hc,if_pos hc]
  ·rw[if_neg hc,if_neg hc]
   show plain ((nums l).drop _)=_
   rw[nums_drop]
theorem plain_invalidF:∀ (n:Nat) (l:List UInt8),l.length≤n→Lib.validD l=false→plain (nums l)=false
 |0,l,hn,hv=>by
  obtain rfl:=List.eq_nil_of_length_eq_zero (Nat.le_zero.1 hn)
  rw[Lib.validD_nil] at hv
  cases hv
 |n+1,l,hn,hv=>by
  by_cases hne:l=[]
  ·subst hne;rw[Lib.validD_nil] at hv;cases hv
  ·rw[Lib.validD_step l hne] at hv
   rw[plain_step (nums_lt l) (by intro e;exact hne (List.map_eq_nil_iff.1 e)),step_decode]
   split at hv
   ·rename_i hb
    rw[if_pos (Prod.ext hb.1 hb.2)]
   ·rename_i hb
    have hb2:Lib.decodeL l≠(65533,1):=fun e=>hb (by rw[e];exact ⟨rfl,rfl⟩)
    rw[if_neg hb2]
    by_cases hc:(Lib.decodeL l).1<32∨(Lib.decodeL l).1=127
    ·rw[if_pos hc]
    ·rw[if_neg hc]
     show plain ((nums l).drop _)=_
     rw[nums_drop]
     have hw:=Lib.decodeL_width l
     have hp:=List.length_pos_iff.2 hne
     exact plain_invalidF n _ (by rw[List.length_drop];omega) hv
theorem plain_invalid (l:List UInt8) (hv:Lib.validD l=false):plain (nums l)=false:=plain_invalidF l.length l (Nat.le_refl _) hv
theorem allok_decode (l:List UInt8) (hne:l≠[]):(nums l).all okc=(okc (Lib.decodeL l).1&&(nums (l.drop (Lib.decodeL l).2)).all okc):=by
 match l,hne with
 |b :: t,_ =>
  by_cases hb:b.toNat<128
  ·rw[Lib.decodeL_ascii b t hb]
   simp[nums]
  ·have h1:okc b.toNat=false:=by simp[okc];omega
   have h2:okc (Lib.decodeL (b :: t)).1=false:=by
    rw[Lib.decodeL_N]
    have h0:((b :: t).getD 0 0).toNat=b.toNat:=rfl
    rw[h0]
    have hlt:=b.toNat_lt
    generalize b.toNat=x at *
    generalize ((b :: t).getD 1 0).toNat=y
    generalize ((b :: t).getD 2 0).toNat=z
    generalize ((b :: t).getD 3 0).toNat=u
    generalize (b :: t).length=n
    have:128≤(Lib.decodeN n x y z u).1:=by
     unfold Lib.decodeN
     repeat' split
     all_goals (simp only;omega)
    simp[okc];omega
   rw[h2]
   simp[nums,h1]
end Pt
end Go.Proofs.YtjjbkpjjmbfdhaaGreatDoor
