import Derived.Test.YtjjbkpjjmbfdhaaGreatDoorZb00
import Derived.Test.YtjjbkpjjmbfdhaaGreatDoorZb01
import Derived.Test.YtjjbkpjjmbfdhaaGreatDoorZb03
import Derived.Test.YtjjbkpjjmbfdhaaGreatDoorZb11
import Derived.Test.YtjjbkpjjmbfdhaaGreatDoorZb12
import Derived.Test.YtjjbkpjjmbfdhaaGreatDoorZb17
import Derived.Test.YtjjbkpjjmbfdhaaGreatDoorZb19
import Derived.Test.YtjjbkpjjmbfdhaaGreatDoorZb23
import Derived.Test.YtjjbkpjjmbfdhaaGreatDoorZb24
import Derived.Test.YtjjbkpjjmbfdhaaGreatDoorZb26
import Derived.Test.YtjjbkpjjmbfdhaaGreatDoorZb27
import Derived.Test.YtjjbkpjjmbfdhaaGreatDoorZb28
import Derived.Test.YtjjbkpjjmbfdhaaGreatDoorZb29
import Derived.Test.YtjjbkpjjmbfdhaaGreatDoorZb31
import Derived.Test.YtjjbkpjjmbfdhaaGreatDoorZb32
import Derived.Test.YtjjbkpjjmbfdhaaGreatDoorZb33
import Derived.Deep.RegionHeld3
import Derived.BigQuiet
set_option linter.unusedVariables false
set_option linter.unusedSimpArgs false
set_option maxRecDepth 100000
set_option maxHeartbeats 2000000
namespace Go.Proofs.YtjjbkpjjmbfdhaaGreatDoor
open Lib (hid)
open Go.RowKit
def BodyPost (A:Nat→Addr) (w w':World) (r:Except Nat (List Nat)) (e:Ending):Prop:=w.grownBy w' none∧match r with
 |.ok l=>∃ a c,e=.returned (.tuple #[.slice a l.length c,.nilIface])∧Bytes w' (.slice a l.length c) l∧Whole0 (.slice a l.length c)
 |.error k=>∃ u,e=.returned (.tuple #[u,errV A k])
def putR (s:De.St) (t:Nat) (r:Except Nat (List Nat)):De.St:=match r with
 |.error k=>{ s with e:=k }
 |.ok l=>De.put s t l
def BodyOk (r:Except Nat (List Nat)):Prop:=match r with
 |.error k=>k≠0
 |.ok l=>l.length≤1000000000∧∀ x∈l,x<256
theorem FrW.sup {w w3:World} {u:Value} {l:List Nat} (h:FrW w w3 u l) (hl:∀ x∈l,x<256):Sup (fun k=>w.heap.size≤k∧k<w3.heap.size) w3 (fun W=>Bytes W u l∧Whole0 u) :=
 (bytes_sup (Bytes.own h.own hl) (fun k hk=>hk.2) (fun _ k hk=>by
  obtain ⟨a,n,c,rfl,rfl⟩:=hk
  exact h.own.lt _ rfl)).map fun W hW=>⟨hW,Whole0.own h.own⟩
theorem elem_lt256 {t:Nat} {l:List Nat} (ht:t<256) (hl:∀ x∈l,x<256):∀ x∈Tl.elem t l,x<256:=by
 intro x hx
 simp only[Tl.elem,List.cons_append,List.nil_append,List.mem_cons,List.mem_append] at hx
 rcases hx with rfl|hx|hx
 ·exact ht
 ·exact Tl.lenB_lt _ x hx
 ·exact hl x hx
theorem fail_err {s:De.St} {k:Nat} (he:s.e=0):De.fail s k={ s with e:=k }:=by unfold De.fail;rw[if_pos he]
theorem elem_len70 {t:Nat} {l:List Nat} (h:¬ 65530<l.length):(Tl.elem t l).length≤70000:=by
 have h1:=Tl.more_le l.length
 rw[Tl.elem_len]
 omega
theorem prWrite_int {A:Nat→Addr} {W0 w:World} {F:Nat→Prop} {b:Nat} {s:De.St} (h:PrW A W0 F b s w) (hE:AllErrs W0 A) (hl:Lim 1000 s) (t:Nat) (ht:Tl.known (t:Int)=true) (x:Int) (f:Nat) (caps:Array Value) (r:Except Nat (List Nat)) (hr:BodyOk r)
  (hen:∀ args w,(callFunc f args).run Tryz.prog w=.ok (.enter f args) w) (hB:∀ W,w.grownBy W none→Calls Tryz.prog f (#[.int .i64 x]++caps) W fun e w'=>BodyPost A W w' r e) :
  Calls Tryz.prog 57 #[.pointer (some ⟨b,0,none⟩),.int .i64 (t:Int),.int .i64 x,.func (.func f) #[] caps] w fun e w'=>PrPost A W0 F b w w' (if s.e=0 then putR s t r else s) e:=by
 have HX:=hid h
 obtain ⟨c2,f2,hbl⟩:=h.err_cell
 by_cases he:s.e=0
 ·rw[if_pos he]
  rw[errOf,if_pos he] at c2
  cases r with
  |error k =>
   have hk:k≠0:=hr
   have HF:Hid (∀ w2,w.grownBy w2 none→Calls Tryz.prog 56 #[.pointer (some ⟨b,0,none⟩),errV A k] w2 fun e w'=>PrPost A W0 F b w w' (putR s t (.error k)) e):=hid (fun w2 hg=>(prFail_any (HX.out.grow hg) k hk).mono (fun e w' hp=>by
    rw[fail_err he] at hp
    exact HX.out.after hg hp))
   have HBd:=hid hB
   clear h he hl ht hr hE hB hk
   go_enter Tryz.func57,Tryz.ntmps57
   go_wp2_with (first
    |((with_reducible refine (HBd.out _ (grown_refl _ _)).mono ?_);rintro e w2 ⟨hg2,u,rfl⟩;have HG2:=hid hg2;clear hg2)
    |(go_at_call 56;refine (HF.out _ HG2.out).mono ?_;rintro e w3 ⟨rfl,k1,k2⟩;have K1:=hid k1;have K2:=hid k2;clear k1 k2))
   go_returns
   exact ⟨rfl,K1.out,K2.out⟩
  |ok l =>
   obtain ⟨hll,hl8⟩:l.length≤1000000000∧∀ x∈l,x<256:=hr
   have htn:=Tl.known_nat (t:Int) ht
   by_cases hbig:65530<l.length
   ·have hst:putR s t (.ok l)={ s with e:=3 }:=by show De.put s t l=_;unfold De.put;rw[if_pos hbig]
    rw[hst]
    have HF:Hid (∀ w2,w.grownBy w2 none→Calls Tryz.prog 56 #[.pointer (some ⟨b,0,none⟩),errV A 3] w2 fun e w'=>PrPost A W0 F b w w' { s with e:=3 } e):=hid (fun w2 hg=>(prFail_any (HX.out.grow hg) 3 (by decide)).mono (fun e w' hp=>by
     rw[fail_err he] at hp
     exact HX.out.after hg hp))
    have HP:Hid (∀ a c W,w.grownBy W none→Bytes W (.slice a l.length c) l→Whole0 (.slice a l.length c)→Calls Tryz.prog 102 #[.agg #[.int .i64 (t:Int),.slice a l.length c]] W fun e w'=>e=.returned (.tuple #[.slice none 0 0,errV A 3])∧W.grownBy w' none):=hid (fun a c W hW hb h0=>(tput_any A t _ l W hb h0 (by omega) (hE.grown (grown_trans HX.out.base hW))).mono (fun e w' hp=>by
     obtain ⟨hp,hg⟩:=hp
     unfold PutPost at hp
     rw[if_neg (by rw[ht];simp),if_pos hbig] at hp
     exact ⟨hp,hg⟩))
    have HBd:=hid hB
    obtain ⟨n,hn⟩:∃ n,n=l.length:=⟨_,rfl⟩
    clear h he hl ht hE hB hll hl8 hbig hst htn
    go_enter Tryz.func57,Tryz.ntmps57
    go_wp2_with (first
     |((with_reducible refine (HBd.out _ (grown_refl _ _)).mono ?_);rintro e w2 ⟨hg2,a,c,rfl,hb2,h02⟩;have HG2:=hid hg2;have HB2:=hid hb2;have H02:=hid h02;clear hg2 hb2 h02)
     |(go_at_call 102;refine (HP.out _ _ _ HG2.out HB2.out H02.out).mono ?_;rintro e w3 ⟨rfl,hg3⟩;have HG3:=hid (grown_trans HG2.out hg3);clear hg3)
     |(go_at_call 56;refine (HF.out _ HG3.out).mono ?_;rintro e w4 ⟨rfl,k1,k2⟩;have K1:=hid k1;have K2:=hid k2;clear k1 k2))
    go_returns
    exact ⟨rfl,K1.out,K2.out⟩
   ·have hst:putR s t (.ok l)=De.add s (Tl.elem t l):=by show De.put s t l=_;unfold De.put;rw[if_neg hbig]
    rw[hst]
    have HAd:Hid (∀ w2 x,FrW w w2 x (Tl.elem t l)→Calls Tryz.prog 103 #[.pointer (some ⟨b,0,none⟩),x] w2 fun e w'=>PrPost A W0 F b w w' (De.add s (Tl.elem t l)) e):=hid (fun w2 x hx=>prAdd_new HX.out he hl (elem_len70 hbig) hx.grown (hx.sup (elem_lt256 (by omega) hl8)))
    have HP:Hid (∀ a c W,w.grownBy W none→Bytes W (.slice a l.length c) l→Whole0 (.slice a l.length c)→Calls Tryz.prog 102 #[.agg #[.int .i64 (t:Int),.slice a l.length c]] W fun e w'=>∃ u,e=.returned (.tuple #[u,.nilIface])∧FrW w w' u (Tl.elem t l)):=hid (fun a c W hW hb h0=>(tput_any A t _ l W hb h0 (by omega) (hE.grown (grown_trans HX.out.base hW))).mono (fun e w' hp=>by
     obtain ⟨hp,hg⟩:=hp
     unfold PutPost at hp
     rw[if_neg (by rw[ht];simp),if_neg hbig] at hp
     obtain ⟨u,h1,h2⟩:=hp
     exact ⟨u,h1,h2.of hW⟩))
    have HBd:=hid hB
    obtain ⟨n,hn⟩:∃ n,n=l.length:=⟨_,rfl⟩
    clear h he hl ht hE hB hll hl8 hbig hst htn
    go_enter Tryz.func57,Tryz.ntmps57
    go_wp2_with (first
     |((with_reducible refine (HBd.out _ (grown_refl _ _)).mono ?_);rintro e w2 ⟨hg2,a,c,rfl,hb2,h02⟩;have HG2:=hid hg2;have HB2:=hid hb2;have H02:=hid h02;clear hg2 hb2 h02)
     |(go_at_call 102;refine (HP.out _ _ _ HG2.out HB2.out H02.out).mono ?_;rintro e w3 ⟨u,rfl,hf3⟩;have F3:=hid hf3;clear hf3)
     |(go_at_call 103;refine (HAd.out _ _ F3.out).mono ?_;rintro e w4 ⟨rfl,k1,k2⟩;have K1:=hid k1;have K2:=hid k2;clear k1 k2))
    go_returns
    exact ⟨rfl,K1.out,K2.out⟩
 ·rw[if_neg he]
  rw[errOf,if_neg he] at c2
  have HK:=hid HX.out.same
  clear h he hE hB
  go_enter Tryz.func57,Tryz.ntmps57
  go_wp2
  go_returns
  exact ⟨rfl,HK.out⟩
theorem prWrite_bytes {A:Nat→Addr} {W0 w:World} {F:Nat→Prop} {b:Nat} {s:De.St} (h:PrW A W0 F b s w) (hE:AllErrs W0 A) (hl:Lim 1000 s) (t:Nat) (ht:Tl.known (t:Int)=true) (xa:Option Addr) (xn xc:Nat) (f:Nat) (caps:Array Value) (r:Except Nat (List Nat)) (hr:BodyOk r)
  (hen:∀ args w,(callFunc f args).run Tryz.prog w=.ok (.enter f args) w) (hB:∀ W,w.grownBy W none→Calls Tryz.prog f (#[.slice xa xn xc]++caps) W fun e w'=>BodyPost A W w' r e) :
  Calls Tryz.prog 64 #[.pointer (some ⟨b,0,none⟩),.int .i64 (t:Int),.slice xa xn xc,.func (.func f) #[] caps] w fun e w'=>PrPost A W0 F b w w' (if s.e=0 then putR s t r else s) e:=by
 have HX:=hid h
 obtain ⟨c2,f2,hbl⟩:=h.err_cell
 by_cases he:s.e=0
 ·rw[if_pos he]
  rw[errOf,if_pos he] at c2
  cases r with
  |error k =>
   have hk:k≠0:=hr
   have HF:Hid (∀ w2,w.grownBy w2 none→Calls Tryz.prog 56 #[.pointer (some ⟨b,0,none⟩),errV A k] w2 fun e w'=>PrPost A W0 F b w w' (putR s t (.error k)) e):=hid (fun w2 hg=>(prFail_any (HX.out.grow hg) k hk).mono (fun e w' hp=>by
    rw[fail_err he] at hp
    exact HX.out.after hg hp))
   have HBd:=hid hB
   clear h he hl ht hr hE hB hk
   go_enter Tryz.func64,Tryz.ntmps64
   go_wp2_with (first
    |((with_reducible refine (HBd.out _ (grown_refl _ _)).mono ?_);rintro e w2 ⟨hg2,u,rfl⟩;have HG2:=hid hg2;clear hg2)
    |(go_at_call 56;refine (HF.out _ HG2.out).mono ?_;rintro e w3 ⟨rfl,k1,k2⟩;have K1:=hid k1;have K2:=hid k2;clear k1 k2))
   go_returns
   exact ⟨rfl,K1.out,K2.out⟩
  |ok l =>
   obtain ⟨hll,hl8⟩:l.length≤1000000000∧∀ x∈l,x<256:=hr
   have htn:=Tl.known_nat (t:Int) ht
   by_cases hbig:65530<l.length
   ·have hst:putR s t (.ok l)={ s with e:=3 }:=by show De.put s t l=_;unfold De.put;rw[if_pos hbig]
    rw[hst]
    have HF:Hid (∀ w2,w.grownBy w2 none→Calls Tryz.prog 56 #[.pointer (some ⟨b,0,none⟩),errV A 3] w2 fun e w'=>PrPost A W0 F b w w' { s with e:=3 } e):=hid (fun w2 hg=>(prFail_any (HX.out.grow hg) 3 (by decide)).mono (fun e w' hp=>by
     rw[fail_err he] at hp
     exact HX.out.after hg hp))
    have HP:Hid (∀ a c W,w.grownBy W none→Bytes W (.slice a l.length c) l→Whole0 (.slice a l.length c)→Calls Tryz.prog 102 #[.agg #[.int .i64 (t:Int),.slice a l.length c]] W fun e w'=>e=.returned (.tuple #[.slice none 0 0,errV A 3])∧W.grownBy w' none):=hid (fun a c W hW hb h0=>(tput_any A t _ l W hb h0 (by omega) (hE.grown (grown_trans HX.out.base hW))).mono (fun e w' hp=>by
     obtain ⟨hp,hg⟩:=hp
     unfold PutPost at hp
     rw[if_neg (by rw[ht];simp),if_pos hbig] at hp
     exact ⟨hp,hg⟩))
    have HBd:=hid hB
    obtain ⟨n,hn⟩:∃ n,n=l.length:=⟨_,rfl⟩
    clear h he hl ht hE hB hll hl8 hbig hst htn
    go_enter Tryz.func64,Tryz.ntmps64
    go_wp2_with (first
     |((with_reducible refine (HBd.out _ (grown_refl _ _)).mono ?_);rintro e w2 ⟨hg2,a,c,rfl,hb2,h02⟩;have HG2:=hid hg2;have HB2:=hid hb2;have H02:=hid h02;clear hg2 hb2 h02)
     |(go_at_call 102;refine (HP.out _ _ _ HG2.out HB2.out H02.out).mono ?_;rintro e w3 ⟨rfl,hg3⟩;have HG3:=hid (grown_trans HG2.out hg3);clear hg3)
     |(go_at_call 56;refine (HF.out _ HG3.out).mono ?_;rintro e w4 ⟨rfl,k1,k2⟩;have K1:=hid k1;have K2:=hid k2;clear k1 k2))
    go_returns
    exact ⟨rfl,K1.out,K2.out⟩
   ·have hst:putR s t (.ok l)=De.add s (Tl.elem t l):=by show De.put s t l=_;unfold De.put;rw[if_neg hbig]
    rw[hst]
    have HAd:Hid (∀ w2 x,FrW w w2 x (Tl.elem t l)→Calls Tryz.prog 103 #[.pointer (some ⟨b,0,none⟩),x] w2 fun e w'=>PrPost A W0 F b w w' (De.add s (Tl.elem t l)) e):=hid (fun w2 x hx=>prAdd_new HX.out he hl (elem_len70 hbig) hx.grown (hx.sup (elem_lt256 (by omega) hl8)))
    have HP:Hid (∀ a c W,w.grownBy W none→Bytes W (.slice a l.length c) l→Whole0 (.slice a l.length c)→Calls Tryz.prog 102 #[.agg #[.int .i64 (t:Int),.slice a l.length c]] W fun e w'=>∃ u,e=.returned (.tuple #[u,.nilIface])∧FrW w w' u (Tl.elem t l)):=hid (fun a c W hW hb h0=>(tput_any A t _ l W hb h0 (by omega) (hE.grown (grown_trans HX.out.base hW))).mono (fun e w' hp=>by
     obtain ⟨hp,hg⟩:=hp
     unfold PutPost at hp
     rw[if_neg (by rw[ht];simp),if_neg hbig] at hp
     obtain ⟨u,h1,h2⟩:=hp
     exact ⟨u,h1,h2.of hW⟩))
    have HBd:=hid hB
    obtain ⟨n,hn⟩:∃ n,n=l.length:=⟨_,rfl⟩
    clear h he hl ht hE hB hll hl8 hbig hst htn
    go_enter Tryz.func64,Tryz.ntmps64
    go_wp2_with (first
     |((with_reducible refine (HBd.out _ (grown_refl _ _)).mono ?_);rintro e w2 ⟨hg2,a,c,rfl,hb2,h02⟩;have HG2:=hid hg2;have HB2:=hid hb2;have H02:=hid h02;clear hg2 hb2 h02)
     |(go_at_call 102;refine (HP.out _ _ _ HG2.out HB2.out H02.out).mono ?_;rintro e w3 ⟨u,rfl,hf3⟩;have F3:=hid hf3;clear hf3)
     |(go_at_call 103;refine (HAd.out _ _ F3.out).mono ?_;rintro e w4 ⟨rfl,k1,k2⟩;have K1:=hid k1;have K2:=hid k2;clear k1 k2))
    go_returns
    exact ⟨rfl,K1.out,K2.out⟩
 ·rw[if_neg he]
  rw[errOf,if_neg he] at c2
  have HK:=hid HX.out.same
  clear h he hE hB
  go_enter Tryz.func64,Tryz.ntmps64
  go_wp2
  go_returns
  exact ⟨rfl,HK.out⟩
theorem prWrite_str {A:Nat→Addr} {W0 w:World} {F:Nat→Prop} {b:Nat} {s:De.St} (h:PrW A W0 F b s w) (hE:AllErrs W0 A) (hl:Lim 1000 s) (t:Nat) (ht:Tl.known (t:Int)=true) (x:ByteArray) (f:Nat) (caps:Array Value) (r:Except Nat (List Nat)) (hr:BodyOk r)
  (hen:∀ args w,(callFunc f args).run Tryz.prog w=.ok (.enter f args) w) (hB:∀ W,w.grownBy W none→Calls Tryz.prog f (#[.string x]++caps) W fun e w'=>BodyPost A W w' r e) :
  Calls Tryz.prog 60 #[.pointer (some ⟨b,0,none⟩),.int .i64 (t:Int),.string x,.func (.func f) #[] caps] w fun e w'=>PrPost A W0 F b w w' (if s.e=0 then putR s t r else s) e:=by
 have HX:=hid h
 obtain ⟨c2,f2,hbl⟩:=h.err_cell
 by_cases he:s.e=0
 ·rw[if_pos he]
  rw[errOf,if_pos he] at c2
  cases r with
  |error k =>
   have hk:k≠0:=hr
   have HF:Hid (∀ w2,w.grownBy w2 none→Calls Tryz.prog 56 #[.pointer (some ⟨b,0,none⟩),errV A k] w2 fun e w'=>PrPost A W0 F b w w' (putR s t (.error k)) e):=hid (fun w2 hg=>(prFail_any (HX.out.grow hg) k hk).mono (fun e w' hp=>by
    rw[fail_err he] at hp
    exact HX.out.after hg hp))
   have HBd:=hid hB
   clear h he hl ht hr hE hB hk
   go_enter Tryz.func60,Tryz.ntmps60
   go_wp2_with (first
    |((with_reducible refine (HBd.out _ (grown_refl _ _)).mono ?_);rintro e w2 ⟨hg2,u,rfl⟩;have HG2:=hid hg2;clear hg2)
    |(go_at_call 56;refine (HF.out _ HG2.out).mono ?_;rintro e w3 ⟨rfl,k1,k2⟩;have K1:=hid k1;have K2:=hid k2;clear k1 k2))
   go_returns
   exact ⟨rfl,K1.out,K2.out⟩
  |ok l =>
   obtain ⟨hll,hl8⟩:l.length≤1000000000∧∀ x∈l,x<256:=hr
   have htn:=Tl.known_nat (t:Int) ht
   by_cases hbig:65530<l.length
   ·have hst:putR s t (.ok l)={ s with e:=3 }:=by show De.put s t l=_;unfold De.put;rw[if_pos hbig]
    rw[hst]
    have HF:Hid (∀ w2,w.grownBy w2 none→Calls Tryz.prog 56 #[.pointer (some ⟨b,0,none⟩),errV A 3] w2 fun e w'=>PrPost A W0 F b w w' { s with e:=3 } e):=hid (fun w2 hg=>(prFail_any (HX.out.grow hg) 3 (by decide)).mono (fun e w' hp=>by
     rw[fail_err he] at hp
     exact HX.out.after hg hp))
    have HP:Hid (∀ a c W,w.grownBy W none→Bytes W (.slice a l.length c) l→Whole0 (.slice a l.length c)→Calls Tryz.prog 102 #[.agg #[.int .i64 (t:Int),.slice a l.length c]] W fun e w'=>e=.returned (.tuple #[.slice none 0 0,errV A 3])∧W.grownBy w' none):=hid (fun a c W hW hb h0=>(tput_any A t _ l W hb h0 (by omega) (hE.grown (grown_trans HX.out.base hW))).mono (fun e w' hp=>by
     obtain ⟨hp,hg⟩:=hp
     unfold PutPost at hp
     rw[if_neg (by rw[ht];simp),if_pos hbig] at hp
     exact ⟨hp,hg⟩))
    have HBd:=hid hB
    obtain ⟨n,hn⟩:∃ n,n=l.length:=⟨_,rfl⟩
    clear h he hl ht hE hB hll hl8 hbig hst htn
    go_enter Tryz.func60,Tryz.ntmps60
    go_wp2_with (first
     |((with_reducible refine (HBd.out _ (grown_refl _ _)).mono ?_);rintro e w2 ⟨hg2,a,c,rfl,hb2,h02⟩;have HG2:=hid hg2;have HB2:=hid hb2;have H02:=hid h02;clear hg2 hb2 h02)
     |(go_at_call 102;refine (HP.out _ _ _ HG2.out HB2.out H02.out).mono ?_;rintro e w3 ⟨rfl,hg3⟩;have HG3:=hid (grown_trans HG2.out hg3);clear hg3)
     |(go_at_call 56;refine (HF.out _ HG3.out).mono ?_;rintro e w4 ⟨rfl,k1,k2⟩;have K1:=hid k1;have K2:=hid k2;clear k1 k2))
    go_returns
    exact ⟨rfl,K1.out,K2.out⟩
   ·have hst:putR s t (.ok l)=De.add s (Tl.elem t l):=by show De.put s t l=_;unfold De.put;rw[if_neg hbig]
    rw[hst]
    have HAd:Hid (∀ w2 x,FrW w w2 x (Tl.elem t l)→Calls Tryz.prog 103 #[.pointer (some ⟨b,0,none⟩),x] w2 fun e w'=>PrPost A W0 F b w w' (De.add s (Tl.elem t l)) e):=hid (fun w2 x hx=>prAdd_new HX.out he hl (elem_len70 hbig) hx.grown (hx.sup (elem_lt256 (by omega) hl8)))
    have HP:Hid (∀ a c W,w.grownBy W none→Bytes W (.slice a l.length c) l→Whole0 (.slice a l.length c)→Calls Tryz.prog 102 #[.agg #[.int .i64 (t:Int),.slice a l.length c]] W fun e w'=>∃ u,e=.returned (.tuple #[u,.nilIface])∧FrW w w' u (Tl.elem t l)):=hid (fun a c W hW hb h0=>(tput_any A t _ l W hb h0 (by omega) (hE.grown (grown_trans HX.out.base hW))).mono (fun e w' hp=>by
     obtain ⟨hp,hg⟩:=hp
     unfold PutPost at hp
     rw[if_neg (by rw[ht];simp),if_neg hbig] at hp
     obtain ⟨u,h1,h2⟩:=hp
     exact ⟨u,h1,h2.of hW⟩))
    have HBd:=hid hB
    obtain ⟨n,hn⟩:∃ n,n=l.length:=⟨_,rfl⟩
    clear h he hl ht hE hB hll hl8 hbig hst htn
    go_enter Tryz.func60,Tryz.ntmps60
    go_wp2_with (first
     |((with_reducible refine (HBd.out _ (grown_refl _ _)).mono ?_);rintro e w2 ⟨hg2,a,c,rfl,hb2,h02⟩;have HG2:=hid hg2;have HB2:=hid hb2;have H02:=hid h02;clear hg2 hb2 h02)
     |(go_at_call 102;refine (HP.out _ _ _ HG2.out HB2.out H02.out).mono ?_;rintro e w3 ⟨u,rfl,hf3⟩;have F3:=hid hf3;clear hf3)
     |(go_at_call 103;refine (HAd.out _ _ F3.out).mono ?_;rintro e w4 ⟨rfl,k1,k2⟩;have K1:=hid k1;have K2:=hid k2;clear k1 k2))
    go_returns
    exact ⟨rfl,K1.out,K2.out⟩
 ·rw[if_neg he]
  rw[errOf,if_neg he] at c2
  have HK:=hid HX.out.same
  clear h he hE hB
  go_enter Tryz.func60,Tryz.ntmps60
  go_wp2
  go_returns
  exact ⟨rfl,HK.out⟩
theorem mkFn (fn:Fn) (first cap:Array Value) (w:World):(Instr.makeFunc fn first cap).run Tryz.prog w=.ok (.func fn first cap) w:=rfl
theorem ctext_of {t:Int} (h:¬ (t<0∨253402300799<t)):∀ x∈Cal.text (Cal.of t.toNat),x<256:=De.ctext_lt (Cal.of_right (t:=t.toNat) (by omega)).1
theorem asked_pos {l:List Nat} {m:Int} (h:Pt.asked l m=0):0<l.length:=by
 unfold Pt.asked at h
 by_cases h0:l.length=0
 ·rw[if_pos h0] at h;exact absurd h (by decide)
 ·omega
theorem step_putR {s:De.St} {v:De.Val} {t:Nat} {r:Except Nat (List Nat)} (h1:v.kind≠1) (h2:v.kind≠2) (h11:v.kind≠11) (hb:De.body v=match r with
  |.ok l=>.ok (t,l)
  |.error k=>.error k):De.step s v=if s.e=0 then putR s t r else s:=by
 unfold De.step
 by_cases he:s.e=0
 ·rw[if_pos he,if_neg (fun h=>h he),if_neg h1,if_neg h2,if_neg h11]
  unfold De.plainV
  rw[hb]
  cases r <;> rfl
 ·rw[if_neg he,if_pos he]
structure BodiesOf (A:Nat→Addr) (w:World):Prop where
 errs:AllErrs w A
 texts:TxPut A w
 moment:MoPut A w
theorem enters_any {f:FuncId} {fn:Func} {c:Code} (hf:Tryz.prog.funcs[f]?=some fn) (hname:(fn.name == "runtime.NumGoroutine")=false) (hb:fn.body=some c):∀ args w,(callFunc f args).run Tryz.prog w=.ok (.enter f args) w:=enters_of hf hname hb
theorem sure_int (g:Nat) (w:World):Calls Tryz.prog 58 #[.func (.func g) #[] #[]] w fun e w'=>e=.returned (.func (.func 104) #[] #[.pointer (some ⟨w.heap.size,0,none⟩)])∧w'=w.alloc (.cells #[.func (.func g) #[] #[]] 101):=by
 have hmf:=mkFn
 go_enter Tryz.func58,Tryz.ntmps58
 go_wp2
 go_ret
 exact ⟨rfl,rfl⟩
theorem sureClo_int (A:Nat→Addr) (g bx:Nat) (x:Int) (l:List Nat) (w:World) (hx:w.cell? ⟨bx,0,none⟩=some (.func (.func g) #[] #[])) (hen:∀ args w,(callFunc g args).run Tryz.prog w=.ok (.enter g args) w)
  (hB:Calls Tryz.prog g #[.int .i64 x] w fun e w'=>∃ a c,e=.returned (.slice a l.length c)∧w.grownBy w' none∧Bytes w' (.slice a l.length c) l∧Whole0 (.slice a l.length c)) :
  Calls Tryz.prog 104 #[.int .i64 x,.pointer (some ⟨bx,0,none⟩)] w fun e w'=>BodyPost A w w' (.ok l) e:=by
 have HB:=hid hB
 obtain ⟨n,hn⟩:∃ n,n=l.length:=⟨_,rfl⟩
 clear hB
 go_enter Tryz.func104,Tryz.ntmps104
 go_wp2_with ((with_reducible refine HB.out.mono ?_);rintro e w2 ⟨a,c,rfl,hg2,hb2,h02⟩;have HG2:=hid hg2;have HB2:=hid hb2;have H02:=hid h02;clear hg2 hb2 h02)
 go_ret2
 exact ⟨HG2.out,_,_,rfl,HB2.out,H02.out⟩
theorem prInt_any {A:Nat→Addr} {W0 w:World} {F:Nat→Prop} {b:Nat} {s:De.St} (h:PrW A W0 F b s w) (hA:BodiesOf A W0) (hl:Lim 1000 s) (v:De.Val) (hk:v.kind=3) (hn:De.I64 v.n) :
  Calls Tryz.prog 19 #[.pointer (some ⟨b,0,none⟩),.int .i64 v.n] w fun e w'=>PrPost A W0 F b w w' (De.step s v) e:=by
 have hmf:=mkFn
 have HX:=hid h
 obtain ⟨h1,h2⟩:=hn
 have hst:De.step s v=if s.e=0 then putR s 2 (.ok (Wh.body v.n)) else s:=step_putR (by omega) (by omega) (by omega) (by unfold De.body;rw[if_pos hk])
 have HS:=hid (sure_int 59 w)
 have hlen:(Wh.body v.n).length≤1000:=by have:=Wh.body_len v.n;omega
 have HW:Hid (∀ W,W=w.alloc (.cells #[.func (.func 59) #[] #[]] 101)→Calls Tryz.prog 57 #[.pointer (some ⟨b,0,none⟩),.int .i64 2,.int .i64 v.n,.func (.func 104) #[] #[.pointer (some ⟨w.heap.size,0,none⟩)]] W fun e w'=>PrPost A W0 F b w w' (De.step s v) e):=hid (fun W hW=>by
  rw[hst]
  subst hW
  have hga:=World.grownBy_alloc w (.cells #[.func (.func 59) #[] #[]] 101) none
  refine (prWrite_int (HX.out.grow hga) hA.errs hl 2 (by decide) _ 104 #[.pointer (some ⟨w.heap.size,0,none⟩)] (.ok (Wh.body v.n)) ⟨by omega,Wh.body_lt v.n⟩ (enters_any Tryz.func104 (by kernel_rfl) rfl) (fun W2 hg2=>?_)).mono (fun e w' hp=>HX.out.after hga hp)
  refine sureClo_int A 59 w.heap.size _ _ W2 ((World.cell?_of_block (hg2.block w.heap.size (by rw[alloc_size];omega) (by simp))).trans (cell_blk (alloc_at _ _) 0 rfl)) (enters_any Tryz.func59 (by kernel_rfl) rfl) ((put_any v.n h1 h2 W2).mono (fun e w' hp=>⟨_,_,hp.1,hp.2.1,hp.2.2,Whole0.some _ _ _⟩)))
 clear h hst hl hlen hA
 go_enter Tryz.func19,Tryz.ntmps19
 go_wp2_with (first
  |(go_at_call 58;refine HS.out.mono ?_;rintro e w2 ⟨rfl,hw2⟩;have HW2:=hid hw2;clear hw2)
  |(go_at_call 57;refine (HW.out _ HW2.out).mono ?_;rintro e w3 ⟨rfl,k1,k2⟩;have K1:=hid k1;have K2:=hid k2;clear k1 k2))
 go_returns
 exact ⟨rfl,K1.out,K2.out⟩
theorem prMoment_any {A:Nat→Addr} {W0 w:World} {F:Nat→Prop} {b:Nat} {s:De.St} (h:PrW A W0 F b s w) (hA:BodiesOf A W0) (hl:Lim 1000 s) (v:De.Val) (hk:v.kind=9) (hn:De.I64 v.n) :
  Calls Tryz.prog 25 #[.pointer (some ⟨b,0,none⟩),.int .i64 v.n] w fun e w'=>PrPost A W0 F b w w' (De.step s v) e:=by
 have HX:=hid h
 obtain ⟨R,hR⟩:∃ R:Except Nat (List Nat),R=if v.n<0∨253402300799<v.n then .error 1 else .ok (Cal.text (Cal.of v.n.toNat)):=⟨_,rfl⟩
 have hst:De.step s v=if s.e=0 then putR s 24 R else s:=step_putR (by omega) (by omega) (by omega) (by rw[hR];unfold De.body;rw[if_neg (by omega),if_neg (by omega),if_neg (by omega),if_neg (by omega),if_neg (by omega),if_neg (by omega),if_pos hk];split <;> rfl)
 have HW:Hid (Calls Tryz.prog 57 #[.pointer (some ⟨b,0,none⟩),.int .i64 24,.int .i64 v.n,.func (.func 66) #[] #[]] w fun e w'=>PrPost A W0 F b w w' (De.step s v) e):=hid (by
  rw[hst]
  refine prWrite_int HX.out hA.errs hl 24 (by decide) _ 66 #[] R ?_ (enters_any Tryz.func66 (by kernel_rfl) rfl) (fun W2 hg2=>?_)
  ·rw[hR]
   split
   ·exact (by decide:(1:Nat)≠0)
   ·rename_i hm
    exact ⟨by rw[Cal.text_len];decide,ctext_of (by omega)⟩
  ·rw[hR]
   have hq:=hA.moment v.n W2 hn (grown_trans HX.out.base hg2)
   refine hq.mono (fun e w' hp=>?_)
   obtain ⟨g1,g2⟩:=hp
   refine ⟨g1,?_⟩
   by_cases hm:v.n<0∨253402300799<v.n
   ·rw[if_pos hm]
    rw[if_neg (by unfold isM;omega)] at g2
    obtain ⟨a,c,g3⟩:=g2
    exact ⟨_,g3⟩
   ·rw[if_neg hm]
    rw[if_pos (by unfold isM;omega)] at g2
    obtain ⟨a,c,g3,g4⟩:=g2
    have hlen:(Cal.text (Cal.of v.n.toNat)).length=15:=Cal.text_len _
    show ∃ a c,e=.returned (.tuple #[.slice a (Cal.text (Cal.of v.n.toNat)).length c,.nilIface])∧_
    rw[hlen]
    exact ⟨a,c,g3,g4,whole_pos g4 (by rw[hlen];decide)⟩)
 clear h hst hl hA hR
 go_enter Tryz.func25,Tryz.ntmps25
 go_wp2_with (go_at_call 57;refine HW.out.mono ?_;rintro e w3 ⟨rfl,k1,k2⟩;have K1:=hid k1;have K2:=hid k2;clear k1 k2)
 go_returns
 exact ⟨rfl,K1.out,K2.out⟩
theorem octClo (A:Nat→Addr) (a:Option Addr) (n c:Nat) (l:List Nat) (w:World) (hB:Bytes w (.slice a n c) l) (h0:Whole0 (.slice a n c)):Calls Tryz.prog 65 #[.slice a n c] w fun e w'=>BodyPost A w w' (.ok l) e:=by
 have hn:n=l.length:=(hB.cap).1
 subst hn
 have HB:=hid hB
 have H0:=hid h0
 obtain ⟨n,hn⟩:∃ n,n=l.length:=⟨_,rfl⟩
 have HR:Hid (∀ e,e=.returned (.tuple #[.slice a n c,.nilIface])→BodyPost A w w (.ok l) e):=hid (fun e he=>by subst hn;exact ⟨grown_refl _ _,a,c,he,HB.out,H0.out⟩)
 rw[←hn]
 clear hB h0 hn HB H0
 go_enter Tryz.func65,Tryz.ntmps65
 go_wp2
 go_ret2
 exact HR.out _ rfl
theorem prOctets_any {A:Nat→Addr} {W0 w:World} {F:Nat→Prop} {b:Nat} {s:De.St} (h:PrW A W0 F b s w) (hA:BodiesOf A W0) (hl:Lim 1000 s) (v:De.Val) (hk:v.kind=6) (xa:Option Addr) (xn xc:Nat) (hb:Bytes w (.slice xa xn xc) v.b) (h0:Whole0 (.slice xa xn xc)) (hlen:v.b.length≤1000000) :
  Calls Tryz.prog 24 #[.pointer (some ⟨b,0,none⟩),.slice xa xn xc] w fun e w'=>PrPost A W0 F b w w' (De.step s v) e:=by
 have HX:=hid h
 obtain ⟨R,hR⟩:∃ R:Except Nat (List Nat),R=.ok v.b:=⟨_,rfl⟩
 have hst:De.step s v=if s.e=0 then putR s 4 R else s:=step_putR (by omega) (by omega) (by omega) (by rw[hR];unfold De.body;rw[if_neg (by omega),if_neg (by omega),if_neg (by omega),if_pos hk])
 have HW:Hid (Calls Tryz.prog 64 #[.pointer (some ⟨b,0,none⟩),.int .i64 4,.slice xa xn xc,.func (.func 65) #[] #[]] w fun e w'=>PrPost A W0 F b w w' (De.step s v) e):=hid (by
  rw[hst]
  refine prWrite_bytes HX.out hA.errs hl 4 (by decide) _ _ _ 65 #[] R ?_ (enters_any Tryz.func65 (by kernel_rfl) rfl) (fun W2 hg2=>?_)
  ·rw[hR]
   exact ⟨by omega,hb.lt⟩
  ·rw[hR]
   exact octClo A xa xn xc v.b W2 (hb.grown hg2) h0)
 clear h hst hl hA hR
 go_enter Tryz.func24,Tryz.ntmps24
 go_wp2_with (go_at_call 64;refine HW.out.mono ?_;rintro e w3 ⟨rfl,k1,k2⟩;have K1:=hid k1;have K2:=hid k2;clear k1 k2)
 go_returns
 exact ⟨rfl,K1.out,K2.out⟩
theorem textClo (A:Nat→Addr) (W0:World) (hA:BodiesOf A W0) (bx:Nat) (S:ByteArray) (m:Int) (hm:De.I64 m) (w:World) (hw:W0.grownBy w none) (hx:w.cell? ⟨bx,0,none⟩=some (.int .i64 m)) (hz:S.size≤1000) :
  Calls Tryz.prog 61 #[.string S,.pointer (some ⟨bx,0,none⟩)] w fun e w'=>BodyPost A w w' (if Pt.asked (strL S) m=0 then .ok (strL S) else .error (Pt.asked (strL S) m)) e:=by
 obtain ⟨R,hR⟩:∃ R:Except Nat (List Nat),R=if Pt.asked (strL S) m=0 then .ok (strL S) else .error (Pt.asked (strL S) m):=⟨_,rfl⟩
 rw[←hR]
 have HP:Hid (Calls Tryz.prog 62 #[.string S,.int .i64 m] w fun e w'=>∃ x y,e=.returned (.tuple #[x,y])∧BodyPost A w w' R (.returned (.tuple #[x,y]))):=hid ((hA.texts S m w hz hm hw).mono (fun e w' hp=>by
  rw[hR]
  obtain ⟨g1,g2⟩:=hp
  by_cases ha:Pt.asked (strL S) m=0
  ·rw[if_pos ha] at g2
   obtain ⟨a,c,g3,g4⟩:=g2
   refine ⟨_,_,g3,g1,?_⟩
   rw[if_pos ha]
   have hz2:S.size=(strL S).length:=(strL_len S).symm
   rw[hz2] at g3 g4 ⊢
   exact ⟨a,c,rfl,g4,whole_pos g4 (asked_pos ha)⟩
  ·rw[if_neg ha] at g2
   obtain ⟨a,c,g3⟩:=g2
   refine ⟨_,_,g3,g1,?_⟩
   rw[if_neg ha]
   exact ⟨_,rfl⟩))
 clear hA hm hw hR
 go_enter Tryz.func61,Tryz.ntmps61
 go_wp2_with (go_at_call 62;refine HP.out.mono ?_;rintro e w2 ⟨x,y,rfl,hp⟩;have HQ:=hid hp;clear hp)
 go_ret2
 exact HQ.out
theorem prText_any {A:Nat→Addr} {W0 w:World} {F:Nat→Prop} {b:Nat} {s:De.St} (h:PrW A W0 F b s w) (hA:BodiesOf A W0) (hl:Lim 1000 s) (v:De.Val) (hk:v.kind=7) (hn:De.I64 v.n) (S:ByteArray) (hS:strL S=v.t) (hz:S.size≤1000) :
  Calls Tryz.prog 20 #[.pointer (some ⟨b,0,none⟩),.string S,.int .i64 v.n] w fun e w'=>PrPost A W0 F b w w' (De.step s v) e:=by
 have hmf:=mkFn
 have HX:=hid h
 obtain ⟨R,hR⟩:∃ R:Except Nat (List Nat),R=if Pt.asked (strL S) v.n=0 then .ok (strL S) else .error (Pt.asked (strL S) v.n):=⟨_,rfl⟩
 have hst:De.step s v=if s.e=0 then putR s 12 R else s:=step_putR (by omega) (by omega) (by omega) (by
  rw[hR,hS];unfold De.body;rw[if_neg (by omega),if_neg (by omega),if_neg (by omega),if_neg (by omega),if_pos hk];split <;> rfl)
 have HW:Hid (∀ W,W=w.alloc (.cells #[.int .i64 v.n] 3)→Calls Tryz.prog 60 #[.pointer (some ⟨b,0,none⟩),.int .i64 12,.string S,.func (.func 61) #[] #[.pointer (some ⟨w.heap.size,0,none⟩)]] W fun e w'=>PrPost A W0 F b w w' (De.step s v) e):=hid (fun W hW=>by
  rw[hst]
  subst hW
  have hga:=World.grownBy_alloc w (.cells #[.int .i64 v.n] 3) none
  refine (prWrite_str (HX.out.grow hga) hA.errs hl 12 (by decide) _ 61 #[.pointer (some ⟨w.heap.size,0,none⟩)] R ?_ (enters_any Tryz.func61 (by kernel_rfl) rfl) (fun W2 hg2=>?_)).mono (fun e w' hp=>HX.out.after hga hp)
  ·rw[hR]
   split
   ·exact ⟨by rw[strL_len];omega,strL_lt S⟩
   ·assumption
  ·rw[hR]
   exact textClo A W0 hA w.heap.size S v.n hn W2 (grown_trans HX.out.base (grown_trans hga hg2)) ((World.cell?_of_block (hg2.block w.heap.size (by rw[alloc_size];omega) (by simp))).trans (cell_blk (alloc_at _ _) 0 rfl)) hz)
 clear h hst hl hA hR hn
 obtain ⟨m,hm⟩:∃ m,m=v.n:=⟨_,rfl⟩
 rw[←hm] at HW ⊢
 clear hm
 go_enter Tryz.func20,Tryz.ntmps20
 go_wp2_with (go_at_call 60;refine (HW.out _ rfl).mono ?_;rintro e w3 ⟨rfl,k1,k2⟩;have K1:=hid k1;have K2:=hid k2;clear k1 k2)
 go_returns
 exact ⟨rfl,K1.out,K2.out⟩
theorem all_err:∀ (f:Nat) (b:List Nat) (k:Nat),De.all f b=.error k→k≠0
 |0,_,_,h=>absurd h (by simp[De.all])
 |f+1,b,k,h=>by
  rw[De.all] at h
  by_cases hb:b=[]
  ·rw[if_pos hb] at h;exact absurd h (by simp)
  rw[if_neg hb] at h
  cases hq:Tl.first b with
  |error e=>rw[hq] at h;obtain rfl:=Except.error.inj h;exact De.first_err hq
  |ok p =>
   obtain ⟨t,i,n⟩:=p
   rw[hq] at h
   have h:(match De.all f (b.drop (i+n)) with | .error e=>(Except.error e:Except Nat (List (Nat×List Nat))) | .ok r=>.ok ((t,(b.drop i).take n) :: r))=.error k:=h
   cases hr:De.all f (b.drop (i+n)) with
   |error e=>rw[hr] at h;obtain rfl:=Except.error.inj h;exact all_err f _ _ hr
   |ok r=>rw[hr] at h;exact absurd h (by simp)
theorem prEnter_any {A:Nat→Addr} {W0 w:World} {F:Nat→Prop} {b:Nat} {s:De.Rd} (h:PrR A W0 F b s w) (hE:AllErrs W0 A) (tag:Int) :
  Calls Tryz.prog 35 #[.pointer (some ⟨b,0,none⟩),.int .i64 tag] w fun e w'=>Upto F w w'∧PrR A W0 (Ext F w w') b (De.enter s tag).1 w'∧e=.returned (.bool (De.enter s tag).2):=by
 obtain ⟨W1,hW1⟩:∃ W1,W1=w.alloc (.cells #[.int .i64 tag] 3):=⟨_,rfl⟩
 have hga:w.grownBy W1 none:=by rw[hW1];exact World.grownBy_alloc _ _ _
 have ctb:W1.cell? ⟨w.heap.size,0,none⟩=some (.int .i64 tag):=by rw[hW1];exact cell_blk (alloc_at _ _) 0 rfl
 have hbl:=h.err_cell.2.2
 have hb1:b<W1.heap.size:=Nat.lt_of_lt_of_le hbl hga.size
 have hsane:De.Sane s:=fun he=>by obtain ⟨la,lc,oa,oc,h1,h2⟩:=h.at0 he;exact h2.sane he
 have hmf:=mkFn
 have HR:=hid (prRead_els (h.grow hga) hE tag 79 #[.pointer (some ⟨w.heap.size,0,none⟩)] (getE W1 b tag)
  (fun l k hk=>by
   unfold getE ofAll at hk
   split at hk
   ·cases hq:De.all l.length l with
    |error k2 =>
     rw[hq] at hk
     obtain rfl:=Except.error.inj hk
     exact all_err _ _ _ hq
    |ok ps=>rw[hq] at hk;exact absurd hk (by simp)
   ·obtain rfl:=Except.error.inj hk;decide)
  (fun l V hV w2 v x hg hv=>by
   unfold getE ofAll at hV
   split at hV
   ·cases hq:De.all l.length l with
    |error k2=>rw[hq] at hV;exact absurd hV (by simp)
    |ok ps =>
     rw[hq] at hV
     obtain rfl:=Except.ok.inj hV
     obtain ⟨v1,v2⟩:=hv
     refine ⟨?_,(World.cell?_setCell_other (w:=w2) _ _ _ (by simp)).trans v2⟩
     have hu:Upto (fun k=>k=b) w2 (w2.setCell ⟨b,0,none⟩ x):=⟨rfl,rfl,rfl,by rw[setCell_size];exact Nat.le_refl _,fun k hk hm=>Below.heap_setCell _ _ _ _ (fun e=>hm e)⟩
     refine (v1.upto hu (fun k hk e=>by omega)).mono (fun k hk=>by rw[setCell_size];exact hk) (fun k hk=>hk.2)
   ·exact absurd hV (by simp))
  (enters_any Tryz.func79 rfl rfl)
  (fun l a c h8 hl _ hB h0=>entClo_any A l a c w.heap.size tag W1 ctb h8 hl hB h0 (hE.grown (grown_join h.base hga)) b hb1))
 have HX0:=hid h
 have HG0:=hid hga
 rcases enter_cases hsane tag W1 b with ⟨s2,e1,e2,e3,e4⟩|⟨s2,body,e1,e2,e3,e4,e5⟩
 ·rw[e1] at HR
  rw[e3]
  have HK:Hid (∀ w3,Upto (Ext F w W1) W1 w3→PrR A W0 (Ext (Ext F w W1) W1 w3) b s2 w3→w3.cell? ⟨b,2,none⟩=some (errV A s2.e)∧Upto F w w3∧PrR A W0 (Ext F w w3) b (De.enter s tag).1 w3):=hid (fun w3 k1 k2=>by
   obtain ⟨d,_,_⟩:=k2.err_cell
   rw[errOf,if_neg e2] at d
   have:=HX0.out.join2 ⟨Upto.of_grown F HG0.out,HX0.out.grow HG0.out⟩ ⟨k1,k2.err_any e2 e4⟩
   exact ⟨d,this.1,this.2⟩)
  have HW1:Hid (w.alloc (.cells #[.int .i64 tag] 3)=W1):=hid hW1.symm
  generalize (De.enter s tag).1=s9 at *
  clear h hE hsane e1 e2 e3 e4 hW1 HG0 HX0
  go_enter Tryz.func35,Tryz.ntmps35
  go_wp2_with (go_at_call 78;rw[HW1.out];refine HR.out.mono ?_;rintro e w3 ⟨k1,k2,rfl⟩;obtain ⟨d,k3,k4⟩:=HK.out w3 k1 k2;have K3:=hid k3;have K4:=hid k4;clear k1 k2 k3 k4)
  go_ret
  exact ⟨K3.out,K4.out,rfl⟩
 ·rw[e1] at HR
  rw[e4]
  have HW1:Hid (w.alloc (.cells #[.int .i64 tag] 3)=W1):=hid hW1.symm
  by_cases he:s.e=0
  ·obtain ⟨la,lc,oa,oc,h1,h2⟩:=h.at0 he
   have c1w:w.cell? ⟨b,1,none⟩=some (.slice oa s.left.length oc):=cell_blk h1 1 rfl
   obtain ⟨ys0,hys0,_⟩:=h2.out
   have hovl:∀ k,(Value.slice oa s.left.length oc).ownBlock=some k→k<w.heap.size:=fun k hk=>(own_low hys0 hk).2
   have HK:Hid (∀ w3 v,Upto (Ext F w W1) W1 w3→PrR A W0 (Ext (Ext F w W1) W1 w3) b s2 w3→(Sup (fun k=>W1.heap.size≤k∧k<w3.heap.size) w3 (fun X=>ElsV X v (De.elems body))∧w3.cell? ⟨b,1,none⟩=W1.cell? ⟨b,1,none⟩) →
     ∃ la3 ln3 lc3 on3 va vn vc ys,v=.slice va vn vc∧w3.cell? ⟨b,0,none⟩=some (.slice la3 ln3 lc3)∧w3.cell? ⟨b,1,none⟩=some (.slice oa on3 oc)∧w3.cell? ⟨b,2,none⟩=some .nilIface∧w3.frozen? ⟨b,0,none⟩=false∧w3.frozen? ⟨b,1,none⟩=false∧b<w3.heap.size∧on3≤16∧w3.ownsRow 0 123 1 (.slice oa on3 oc) on3 ys ∧
      (∀ wq w5 ov',w3.grownBy wq none→w5.ownsRow 0 123 1 ov' (on3+1) (ys++[.slice la3 ln3 lc3])→wq.grownBy w5 (Value.slice oa on3 oc).ownBlock→(ov'.ownBlock=(Value.slice oa on3 oc).ownBlock∨ov'.ownBlock=some wq.heap.size) →
       w5.cell? ⟨b,1,none⟩=some (.slice oa on3 oc)∧w5.frozen? ⟨b,1,none⟩=false∧w5.cell? ⟨b,0,none⟩=some (.slice la3 ln3 lc3)∧w5.frozen? ⟨b,0,none⟩=false ∧
       Upto F w ((w5.setCell ⟨b,1,none⟩ ov').setCell ⟨b,0,none⟩ (.slice va vn vc))∧PrR A W0 (Ext F w ((w5.setCell ⟨b,1,none⟩ ov').setCell ⟨b,0,none⟩ (.slice va vn vc))) b { s2 with top:=body,left:=s2.top :: s2.left } ((w5.setCell ⟨b,1,none⟩ ov').setCell ⟨b,0,none⟩ (.slice va vn vc)))):=hid (fun w3 v k1 k2 ⟨k3,k4⟩=>by
    obtain ⟨la3,lc3,oa3,oc3,q1,q2⟩:=k2.at0 e2
    have d0:w3.cell? ⟨b,0,none⟩=some (.slice la3 (De.elems s2.top).length lc3):=cell_blk q1 0 rfl
    have d1:w3.cell? ⟨b,1,none⟩=some (.slice oa3 s2.left.length oc3):=cell_blk q1 1 rfl
    have d1':w3.cell? ⟨b,1,none⟩=some (.slice oa s.left.length oc):=k4.trans ((World.cell?_of_block (HG0.out.block b hbl (by simp))).trans c1w)
    rw[d1] at d1'
    simp only[Option.some.injEq,Value.slice.injEq] at d1'
    obtain ⟨rfl,hln,rfl⟩:=d1'
    obtain ⟨va,vg,vo,vc,hv,_⟩:=k3.now
    obtain ⟨ys,r1,r2⟩:=q2.out
    obtain ⟨kk,hkk,_⟩:=q2.sane e2
    have hb3:=blk_lt q1
    refine ⟨la3,_,lc3,s2.left.length,va,_,vc,ys,hv,d0,d1,cell_blk q1 2 rfl,free_blk q1 0,free_blk q1 1,hb3,by omega,r1,fun wq w5 ov' g1 g2 g3 g4=>?_⟩
    have hb5:w5.heap[b]?=w3.heap[b]?:=(g3.block b (by have:=g1.size;omega) (fun e=>q2.rov e.symm)).trans (g1.block b hb3 (by simp))
    refine ⟨(World.cell?_of_block hb5).trans d1,(World.frozen?_of_block hb5).trans (free_blk q1 1),(World.cell?_of_block hb5).trans d0,(World.frozen?_of_block hb5).trans (free_blk q1 0),?_⟩
    have hvI:Sup (ImM W0 (Ext (Ext F w W1) W1 w3) (MutR b (.slice oa3 s2.left.length oc3))) w3 (fun X=>ElsV X v (De.elems body)):=by
     refine k3.mono (fun k hk=>⟨.inl (.inr hk),fun hm=>?_⟩) (fun k hk=>?_)
     ·have h1s:=HG0.out.size
      rcases hm with hm|hm
      ·omega
      ·have:=hovl k (by rw[←hln];exact hm);omega
     ·rcases hk.1 with hk|hk
      ·exact (k2.own k hk).2
      ·exact Nat.lt_of_lt_of_le hk k2.base.size
    have T:=k2.enters q1 e2 q2 e5 hvI r2 (by have:=r1.1;omega) g1 g2 g3 g4
    rw[hv] at T
    have J1:=HX0.out.join2 ⟨Upto.of_grown F HG0.out,HX0.out.grow HG0.out⟩ ⟨k1,k2⟩
    have hs1:=HG0.out.size
    have hs3:=k1.size
    have T2:=(PrR.iff T.2 (G:=Ext (Ext F w w3) w3 ((w5.setCell ⟨b,1,none⟩ ov').setCell ⟨b,0,none⟩ (.slice va (De.elems body).length vc))) (fun k=>?_))
    ·exact HX0.out.join2 J1 ⟨T.1.mono (fun k hk hf=>hf.elim (fun hf=>hf.elim .inl (fun hf=>.inr ⟨hf.1,by omega⟩)) (fun hf=>.inr ⟨by omega,hf.2⟩)),T2⟩
    ·have:=T.1.size
     constructor
     ·rintro ((hk|hk)|hk)
      ·exact .inl (.inl (.inl hk))
      ·by_cases hk1:k<W1.heap.size
       ·exact .inl (.inl (.inr ⟨hk.1,hk1⟩))
       ·exact .inl (.inr ⟨by omega,hk.2⟩)
      ·exact .inr hk
     ·rintro (((hk|hk)|hk)|hk)
      ·exact .inl (.inl hk)
      ·exact .inl (.inr ⟨hk.1,by omega⟩)
      ·exact .inl (.inr ⟨by omega,hk.2⟩)
      ·exact .inr hk)
   have HI:=hid iLE
   generalize ({ s2 with top:=body,left:=s2.top :: s2.left }:De.Rd)=s9 at *
   clear h hE hsane e1 e2 e3 e4 e5 hW1 HG0 HX0 h1 h2 c1w hys0 hovl he hbl hb1 ctb hga
   go_enter Tryz.func35,Tryz.ntmps35
   go_wp2_with (go_at_call 78;rw[HW1.out];refine HR.out.mono ?_;rintro e w3 ⟨k1,k2,v,rfl,hv⟩;obtain ⟨la3,ln3,lc3,on3,va,vn,vc,ys,rfl,d0,d1,d2,f0,f1,hb3,hn,hrow,HGx⟩:=HK.out w3 v k1 k2 hv;have HG:=hid HGx;have HO:=hid hrow;clear k1 k2 hv HGx hrow)
   have gd:w3.grownBy w3.drew none:=grown_drewN (grown_refl _ _) 1
   have GD:=hid gd
   have gda:w3.grownBy (w3.alloc (.cells #[.slice la3 ln3 lc3] 123)).drew none:=grown_drewN (grown_alloc (grown_refl _ _) _) 1
   have GDA:=hid gda
   have KS:Hid (∀ w',w3.grownBy w' none→w'.cell? ⟨b,0,none⟩=some (.slice la3 ln3 lc3)):=hid (fun w' hg'=>(World.cell?_of_block (hg'.block b hb3 (by simp))).trans d0)
   have e1:(w3.alloc (.cells #[.slice la3 ln3 lc3] 123)).cell? ⟨b,1,none⟩=some (.slice oa on3 oc):=(World.cell?_of_block (alloc_old _ _ _ hb3)).trans d1
   have HOA:=hid (HO.out.kept gda (Classical.em _))
   have HN:Hid (∀ j u,([.slice la3 ln3 lc3]:List Value)[j]?=some u→(w3.alloc (.cells #[.slice la3 ln3 lc3] 123)).drew.cell? ((⟨w3.heap.size,0,none⟩:Addr).add j)=some u):=hid (by intro j u hj;rw[addr_addO,Nat.zero_add];exact cell_blk (alloc_at w3 _) j (by simpa using hj))
   clear gd gda d0 HK HR
   refine wp_region_held_drew (S:=(fun w'=>w'.cell? ⟨b,0,none⟩=some (.slice la3 ln3 lc3))) (by kernel_rfl) (by first|(dsimp only;(first|exact KS.out _ GD.out|exact KS.out _ GDA.out|exact K10.out|exact (World.cell?_setCell_other (w:=w10) _ _ _ (by simp)).trans K10.out))|(first|exact KS.out _ GD.out|exact KS.out _ GDA.out|exact K10.out|exact (World.cell?_setCell_other (w:=w10) _ _ _ (by simp)).trans K10.out)) (fun hHeld=>?_)
   refine wpAnyH_take (i:=0) (oi:=({ dst:=_,op:=_,type:=_,pos:=_,after:=_,guard:=_ }:Oper)) (v:=?_) rfl (by kernel_rfl) (by kernel_rfl) (by kernel_rfl) (fun _ _ _ h=>h) (Or.inl ⟨by rfl,?_⟩) (by assumption) ?_
   rotate_left
   focus (intro w hSw;(try dsimp only at hSw);go_simp;try with_reducible rfl)
   try simp only[Act.put,List.setIfInBounds_toArray,List.set_cons_zero,List.set_cons_succ]
   refine wpAnyH_take (i:=1) (oi:=({ dst:=_,op:=_,type:=_,pos:=_,after:=_,guard:=_ }:Oper)) (v:=?_) rfl (by kernel_rfl) (by kernel_rfl) (by kernel_rfl) (fun _ _ _ h=>h) (Or.inl ⟨by rfl,?_⟩) (by assumption) ?_
   rotate_left
   focus (intro w hSw;(try dsimp only at hSw);go_simp;try with_reducible rfl)
   try simp only[Act.put,List.setIfInBounds_toArray,List.set_cons_zero,List.set_cons_succ]
   refine wpAnyH_take (i:=2) (oi:=({ dst:=_,op:=_,type:=_,pos:=_,after:=_,guard:=_ }:Oper)) (v:=?_) rfl (by kernel_rfl) (by kernel_rfl) (by kernel_rfl) (fun _ _ _ h=>h) (Or.inl ⟨by rfl,?_⟩) (by assumption) ?_
   rotate_left
   focus (intro w hSw;(try dsimp only at hSw);go_simp;try with_reducible rfl)
   try simp only[Act.put,List.setIfInBounds_toArray,List.set_cons_zero,List.set_cons_succ]
   refine wpAnyH_take (i:=3) (oi:=({ dst:=_,op:=_,type:=_,pos:=_,after:=_,guard:=_ }:Oper)) (v:=?_) rfl (by kernel_rfl) (by kernel_rfl) (by kernel_rfl) (fun _ _ _ h=>h) (Or.inl ⟨by rfl,?_⟩) (by assumption) ?_
   rotate_left
   focus (intro w hSw;(try dsimp only at hSw);go_simp;try with_reducible rfl)
   try simp only[Act.put,List.setIfInBounds_toArray,List.set_cons_zero,List.set_cons_succ]
   refine wpAnyH_take (i:=5) (oi:=({ dst:=_,op:=_,type:=_,pos:=_,after:=_,guard:=_ }:Oper)) (v:=?_) rfl (by kernel_rfl) (by kernel_rfl) (by kernel_rfl) (fun _ _ _ h=>h) (Or.inl ⟨by rfl,?_⟩) (by assumption) ?_
   rotate_left
   focus (intro w hSw;(try dsimp only at hSw);go_simp;try with_reducible rfl)
   try simp only[Act.put,List.setIfInBounds_toArray,List.set_cons_zero,List.set_cons_succ]
   refine wpAnyH_take (i:=6) (oi:=({ dst:=_,op:=_,type:=_,pos:=_,after:=_,guard:=_ }:Oper)) (v:=?_) rfl (by kernel_rfl) (by kernel_rfl) (by kernel_rfl) (fun _ _ _ h=>h) (Or.inl ⟨by rfl,?_⟩) (by assumption) ?_
   rotate_left
   focus (intro w hSw;(try dsimp only at hSw);go_simp;try with_reducible rfl)
   try simp only[Act.put,List.setIfInBounds_toArray,List.set_cons_zero,List.set_cons_succ]
   refine wpAnyH_take (i:=7) (oi:=({ dst:=_,op:=_,type:=_,pos:=_,after:=_,guard:=_ }:Oper)) (v:=?_) rfl (by kernel_rfl) (by kernel_rfl) (by kernel_rfl) (fun _ _ _ h=>h) (Or.inl ⟨by rfl,?_⟩) (by assumption) ?_
   rotate_left
   focus (intro w hSw;(try dsimp only at hSw);go_simp;try with_reducible rfl)
   try simp only[Act.put,List.setIfInBounds_toArray,List.set_cons_zero,List.set_cons_succ]
   refine wpAnyH_take (i:=8) (oi:=({ dst:=_,op:=_,type:=_,pos:=_,after:=_,guard:=_ }:Oper)) (v:=?_) rfl (by kernel_rfl) (by kernel_rfl) (by kernel_rfl) (fun _ _ _ h=>h) (Or.inl ⟨by rfl,?_⟩) (by assumption) ?_
   rotate_left
   focus (intro w hSw;(try dsimp only at hSw);go_simp;try with_reducible rfl)
   try simp only[Act.put,List.setIfInBounds_toArray,List.set_cons_zero,List.set_cons_succ]
   repeat' first
    |(refine wpAnyH_done (by decide +kernel) ?_ _)
    |(refine wpAnyH_ready (rs:=[4,9]) (by decide +kernel) (by simp) ?_)
    |(refine wpAnyH_ready (rs:=[4]) (by decide +kernel) (by simp) ?_)
    |(refine wpAnyH_ready (rs:=[10]) (by decide +kernel) (by simp) ?_)
    |(refine wpAnyH_ready (rs:=[13]) (by decide +kernel) (by simp) ?_)
    |(refine wpAnyH_ready (rs:=[9]) (by decide +kernel) (by simp) ?_)
    |exact AllReadyH.nil
    |(refine AllReadyH.cons (o:=({ dst:=_,op:=_,type:=_,pos:=_,after:=_,guard:=_ }:Oper)) rfl (fun Kq hKq=>?_) ?_;(focus ((first|((refine step_appN2 (by rfl) (.tmp 19) (.tmp 24) 124 (by rfl) 0 123 (.slice none 0 0) 1 24 Tryz.underlying124 HI.out rfl (by decide) (by decide) _ on3 ys (by rfl) HOA.out ⟨w3.heap.size,0,none⟩ 1 _ [.slice la3 ln3 lc3] (by rfl) rfl HN.out (by intro u hu;simp at hu;rw[hu];rfl) (by omega) (Nat.zero_le _) ?_;intro v' w10 ho10 hg10 hv10;obtain ⟨va',vg',vc',hv',q1,q2,q3,q4,q5⟩:=own_formN ho10;subst hv';clear q1 q2 q3 q4 q5;obtain ⟨dd1,ff1,dd0,ff0,kk1,kk2⟩:=HG.out _ _ _ GDA.out ho10 hg10 hv10;have K10:=hid dd0;have FF0:=hid ff0;have KK1:=hid kk1;have KK2:=hid kk2;clear ho10 hg10 hv10 kk1 kk2 dd0 ff0))|go_simp);(refine hKq.out _ _ (by first|(dsimp only;(first|exact KS.out _ GD.out|exact KS.out _ GDA.out|exact K10.out|exact (World.cell?_setCell_other (w:=w10) _ _ _ (by simp)).trans K10.out))|(first|exact KS.out _ GD.out|exact KS.out _ GDA.out|exact K10.out|exact (World.cell?_setCell_other (w:=w10) _ _ _ (by simp)).trans K10.out)) (fun hHeld=>?_));(clear hKq Kq);(try simp only[Act.put,List.setIfInBounds_toArray,List.set_cons_zero,List.set_cons_succ]))))
    |(refine wpAnyH_take (i:=11) (oi:=({ dst:=_,op:=_,type:=_,pos:=_,after:=_,guard:=_ }:Oper)) (v:=?_) rfl (by kernel_rfl) (by kernel_rfl) (by decide +kernel) (fun _ _ _ h=>h) (Or.inl ⟨by rfl,?_⟩) (by assumption) ?_;rotate_left;focus (intro w hSw;(try dsimp only at hSw);go_simp;try with_reducible rfl);try simp only[Act.put,List.setIfInBounds_toArray,List.set_cons_zero,List.set_cons_succ])
    |(refine wpAnyH_take (i:=12) (oi:=({ dst:=_,op:=_,type:=_,pos:=_,after:=_,guard:=_ }:Oper)) (v:=?_) rfl (by kernel_rfl) (by kernel_rfl) (by decide +kernel) (fun _ _ _ h=>h) (Or.inl ⟨by rfl,?_⟩) (by assumption) ?_;rotate_left;focus (intro w hSw;(try dsimp only at hSw);go_simp;try with_reducible rfl);try simp only[Act.put,List.setIfInBounds_toArray,List.set_cons_zero,List.set_cons_succ])
   all_goals
    have ff0:=FF0.out
    have dd0:=K10.out
    show Exit.then _ _ _ _ _
    go_wp2
    go_ret
    exact ⟨KK1.out,KK2.out,rfl⟩
  ·exfalso
   unfold readP nextP at e1
   rw[if_pos (by simp[he])] at e1
   exact absurd (congrArg Prod.snd e1) (by simp)
structure RowI (A:Nat→Addr) (W0 w:World) (F F':Nat→Prop) (b:Nat) (s':De.Rd) (e:TypeId) (sz n:Nat) (xs:List Value) (r:Value) (wr:World):Prop where
 upto:Upto F w wr
 rd:PrR A W0 F' b s' wr
 sub:∀ k,F' k→Ext F w wr k
 row:wr.ownsRow w.heap.size e sz r n xs
 free:∀ k,r.ownBlock=some k→¬ F' k
section
variable {A:Nat→Addr} {W0 w w2 w3 wr:World} {F F':Nat→Prop} {b:Nat} {s s' s2:De.Rd} {e:TypeId} {sz n m:Nat} {xs ys:List Value} {r r2:Value}
theorem RowI.still (h:RowI A W0 w F F' b s' e sz n xs r wr) (hg:wr.grownBy w2 none):RowI A W0 w F F' b s' e sz n xs r w2 :=
 ⟨h.upto.trans (Upto.of_grown F hg) (fun _ _ h=>h),h.rd.still hg,fun k hk=>by
  have:=hg.size
  rcases h.sub k hk with h1|h1
  ·exact .inl h1
  ·exact .inr ⟨h1.1,by omega⟩,own_upto h.row (Upto.of_grown (fun _=>False) hg) (fun _ _ h=>h),h.free⟩
theorem RowI.call (hw:∀ k,F k→k<w.heap.size) (h:RowI A W0 w F F' b s' e sz n xs r wr) (hu:Upto F' wr w2) (hr:PrR A W0 (Ext F' wr w2) b s2 w2):RowI A W0 w F (Ext F' wr w2) b s2 e sz n xs r w2:=by
 have h1:=h.upto.size
 have h2:=hu.size
 refine ⟨h.upto.trans hu (fun k hk hf=>?_),hr,fun k hk=>?_,own_upto h.row hu h.free,fun k hk hf=>?_⟩
 ·rcases h.sub k hf with hf|hf
  ·exact hf
  ·omega
 ·rcases hk with hk|hk
  ·rcases h.sub k hk with h3|h3
   ·exact .inl h3
   ·exact .inr ⟨h3.1,by omega⟩
  ·exact .inr ⟨by omega,hk.2⟩
 ·rcases hf with hf|hf
  ·exact h.free k hk hf
  ·have:=(h.row.lt k hk).2;omega
theorem RowI.more (hb:W0.grownBy w none) (h:RowI A W0 w F F' b s' e sz n xs r wr) (h5:wr.grownBy w2 none) (ho:w3.ownsRow w.heap.size e sz r2 m ys) (hg:w2.grownBy w3 r.ownBlock) (hbk:r2.ownBlock=r.ownBlock∨r2.ownBlock=some w2.heap.size):RowI A W0 w F F' b s' e sz m ys r2 w3:=by
 have h2:=h.still h5
 have hub:Upto (fun k=>r.ownBlock=some k) w2 w3:=Upto.of_row hg (fun k hk=>.inl hk)
 have hlow:∀ k,r.ownBlock=some k→w.heap.size≤k:=fun k hk=>(h2.row.lt k hk).1
 have hs:=hb.size
 refine ⟨h2.upto.trans hub (fun k hk hf=>?_),h2.rd.other (G:=fun k=>r.ownBlock=some k) (G':=fun k=>r.ownBlock=some k) (fun k hk=>by have:=hlow k hk;omega) ⟨hub,fun _ _ h=>h⟩ (fun k hk hf=>h2.free k hk hf),fun k hk=>?_,ho,fun k hk hf=>?_⟩
 ·have:=hlow k hf;omega
 ·have:=hub.size
  rcases h2.sub k hk with h3|h3
  ·exact .inl h3
  ·exact .inr ⟨h3.1,by omega⟩
 ·rcases hbk with hbk|hbk
  ·exact h2.free k (by rw[←hbk,hk]) hf
  ·rw[hk] at hbk
   have e:=Option.some.inj hbk
   have:=(h2.rd.own k hf).2
   omega
end
def numR (least most:Int) (l:List Nat):Except Nat (World→Value→Prop):=if (rangeOf l least most).2=0 then .ok (fun _ v=>v=.int .i64 (rangeOf l least most).1) else .error (rangeOf l least most).2
section
variable {A:Nat→Addr} {W0 w w2:World} {F:Nat→Prop} {b:Nat} {s:De.Rd}
theorem PrR.afterO {w':World} {Z:Value} {p:De.Rd×Option (World→Value→Prop)} {e:Ending} (h:PrR A W0 F b s w) (hg:w.grownBy w2 none) (hp:PrROut A W0 (Ext F w w2) b w2 w' Z p e):PrROut A W0 F b w w' Z p e:=by
 obtain ⟨h1,h2,h3⟩:=hp
 have:=h.join2 ⟨Upto.of_grown F hg,h.grow hg⟩ ⟨h1,h2⟩
 exact ⟨this.1,this.2,h3⟩
theorem prROut_val {w':World} {Z:Value} {p:De.Rd×Option (World→Value→Prop)} {e:Ending} (h:PrROut A W0 F b w w' Z p e):∃ v,e=.returned v∧PrROut A W0 F b w w' Z p (.returned v):=by
 obtain ⟨k1,k2,k3⟩:=h
 obtain ⟨p1,p2⟩:=p
 cases p2 with
 |none=>exact ⟨_,k3,k1,k2,rfl⟩
 |some V =>
  obtain ⟨v,k4,k5⟩:=k3
  exact ⟨v,k4,k1,k2,v,rfl,k5⟩
end
theorem numClo_any (A:Nat→Addr) (l:List Nat) (a:Option Addr) (c x1 x2:Nat) (least most:Int) (w:World) (h1:w.cell? ⟨x1,0,none⟩=some (.int .i64 least)) (h2:w.cell? ⟨x2,0,none⟩=some (.int .i64 most)) (hB:Bytes w (.slice a l.length c) l) (hE:AllErrs w A) :
  Calls Tryz.prog 116 #[.slice a l.length c,.pointer (some ⟨x1,0,none⟩),.pointer (some ⟨x2,0,none⟩)] w fun e w'=>GetPost A w w' (numR least most l) e:=by
 have HR:=hid (range_any A (.slice a l.length c) l least most w hB hE)
 unfold numR
 obtain ⟨n,k,hnk⟩:∃ n k,rangeOf l least most=(n,k):=⟨_,_,rfl⟩
 rw[hnk] at HR ⊢
 simp only at HR ⊢
 obtain ⟨m,hm⟩:∃ m,m=l.length:=⟨_,rfl⟩
 by_cases hk:k=0
 ·rw[if_pos hk]
  rw[errOf,if_pos hk] at HR
  clear hB hE hnk hk
  go_enter Tryz.func116,Tryz.ntmps116
  go_wp2_with (go_at_call 117;refine HR.out.mono ?_;rintro e w2 ⟨rfl,hg2⟩;have HG2:=hid hg2;clear hg2)
  go_returns
  exact ⟨HG2.out,_,rfl,rfl⟩
 ·rw[if_neg hk]
  rw[errOf,if_neg hk] at HR
  clear hB hE hnk hk
  go_enter Tryz.func116,Tryz.ntmps116
  go_wp2_with (go_at_call 117;refine HR.out.mono ?_;rintro e w2 ⟨rfl,hg2⟩;have HG2:=hid hg2;clear hg2)
  go_returns
  exact ⟨HG2.out,_,rfl⟩
theorem rrNumber_any {A:Nat→Addr} {W0 w:World} {F:Nat→Prop} {b:Nat} {s:De.Rd} (h:PrR A W0 F b s w) (hE:AllErrs W0 A) (tag least most:Int) :
  Calls Tryz.prog 80 #[.pointer (some ⟨b,0,none⟩),.int .i64 tag,.int .i64 least,.int .i64 most] w fun e w'=>PrROut A W0 F b w w' (.int .i64 0) (readP s tag (numR least most)) e:=by
 obtain ⟨W1,hW1⟩:∃ W1,W1=(w.alloc (.cells #[.int .i64 least] 3)).alloc (.cells #[.int .i64 most] 3):=⟨_,rfl⟩
 have hga:w.grownBy W1 none:=by rw[hW1];exact grown_alloc (grown_alloc (grown_refl _ _) _) _
 have cx1:W1.cell? ⟨w.heap.size,0,none⟩=some (.int .i64 least):=by rw[hW1];exact cell_blk (alloc_keep (alloc_at _ _)) 0 rfl
 have cx2:W1.cell? ⟨w.heap.size+1,0,none⟩=some (.int .i64 most):=by
  rw[hW1]
  have:=alloc_at (w.alloc (.cells #[.int .i64 least] 3)) (.cells #[.int .i64 most] 3)
  rw[alloc_size] at this
  exact cell_blk this 0 rfl
 have hmf:=mkFn
 have HR:=hid ((prRead_int (h.grow hga) hE tag 116 #[.pointer (some ⟨w.heap.size,0,none⟩),.pointer (some ⟨w.heap.size+1,0,none⟩)] (numR least most)
  (fun l k hk=>by
   unfold numR at hk
   split at hk
   ·exact absurd hk (by simp)
   ·rename_i hne
    obtain rfl:=Except.error.inj hk;exact hne)
  (fun l V hV w2 v x hg hv=>by
   unfold numR at hV
   split at hV
   ·obtain rfl:=Except.ok.inj hV;exact hv
   ·exact absurd hV (by simp))
  (enters_any Tryz.func116 rfl rfl)
  (fun l a c h8 hl _ hB h0=>numClo_any A l a c _ _ least most W1 cx1 cx2 hB (hE.grown (grown_join h.base hga)))).mono (fun e w' hp=>h.afterO hga hp))
 have HW1:Hid ((w.alloc (.cells #[.int .i64 least] 3)).alloc (.cells #[.int .i64 most] 3)=W1):=hid hW1.symm
 generalize readP s tag (numR least most)=p at *
 clear h hE hW1 hga cx1 cx2
 go_enter Tryz.func80,Tryz.ntmps80
 go_wp2_with (go_at_call 93;rw[HW1.out];refine HR.out.mono ?_;rintro e w3 hp3;obtain ⟨v,hv,hq⟩:=prROut_val hp3;subst hv;have HQ:=hid hq;clear hp3 hq)
 go_ret
 exact HQ.out
theorem rrInt_any {A:Nat→Addr} {W0 w:World} {F:Nat→Prop} {b:Nat} {s:De.Rd} (h:PrR A W0 F b s w) (hE:AllErrs W0 A) (least most:Int) :
  Calls Tryz.prog 36 #[.pointer (some ⟨b,0,none⟩),.int .i64 least,.int .i64 most] w fun e w'=>∃ v,e=.returned v∧PrROut A W0 F b w w' (.int .i64 0) (readP s 2 (numR least most)) e:=by
 have HN:=hid (rrNumber_any h hE 2 least most)
 generalize readP s 2 (numR least most)=p at *
 clear h hE
 go_enter Tryz.func36,Tryz.ntmps36
 go_wp2_with (go_at_call 80;refine HN.out.mono ?_;rintro e w3 hp3;obtain ⟨v,hv,hq⟩:=prROut_val hp3;subst hv;have HQ:=hid hq;clear hp3 hq)
 go_ret
 exact ⟨_,rfl,HQ.out⟩
def octR (w:World) (least most:Int) (l:List Nat):Except Nat (World→Value→Prop):=if (l.length:Int)<least then .error 2 else if most<(l.length:Int) then .error 3 else .ok (fun W v=>Sup (fun k=>w.heap.size≤k∧k<W.heap.size) W (fun X=>Bytes X v l∧Whole0 v))
theorem octClo_any (A:Nat→Addr) (l:List Nat) (a:Option Addr) (c x1 x2:Nat) (least most:Int) (w:World) (h1:w.cell? ⟨x1,0,none⟩=some (.int .i64 least)) (h2:w.cell? ⟨x2,0,none⟩=some (.int .i64 most)) (h8:∀ x∈l,x<256) (hl:l.length≤65530) (hB:Bytes w (.slice a l.length c) l) (h0:Whole0 (.slice a l.length c)) (hE:AllErrs w A) :
  Calls Tryz.prog 92 #[.slice a l.length c,.pointer (some ⟨x1,0,none⟩),.pointer (some ⟨x2,0,none⟩)] w fun e w'=>GetPost A w w' (octR w least most l) e:=by
 have HED:Hid (w.cell? ⟨2,0,none⟩=some (errV A 2)∧w.cell? ⟨3,0,none⟩=some (errV A 3)):=hid (by
  have e5:=errs_at hE 2 (by decide)
  have e6:=errs_at hE 3 (by decide)
  simp only[errVars,List.getD_cons_zero,List.getD_cons_succ,Nat.add_one_sub_one] at e5 e6
  exact ⟨e5,e6⟩)
 have HC:=hid ((clone_any (.slice a l.length c) l w hB h0 (by omega)).mono (fun e w' hp=>(show ∃ ua un uc,e=.returned (.slice ua un uc)∧w.grownBy w' none∧Sup (fun k=>w.heap.size≤k∧k<w'.heap.size) w' (fun X=>Bytes X (.slice ua un uc) l∧Whole0 (.slice ua un uc)) from by
  obtain ⟨u,h3,h4,ua,uc,rfl⟩:=hp
  exact ⟨ua,_,uc,h3,h4.grown,h4.sup h8⟩)))
 unfold octR
 obtain ⟨e2,e3⟩:=HED.out
 by_cases hs:(l.length:Int)<least
 ·rw[if_pos hs]
  generalize l.length=n at *
  clear hB h0 hE HC
  go_enter Tryz.func92,Tryz.ntmps92
  go_wp2
  go_quiet (fail)
  go_wp2
  go_returns
  exact ⟨grown_drewN (grown_refl _ _) _,_,rfl⟩
 ·rw[if_neg hs]
  by_cases hm:most<(l.length:Int)
  ·rw[if_pos hm]
   generalize l.length=n at *
   clear hB h0 hE HC
   go_enter Tryz.func92,Tryz.ntmps92
   go_wp2
   go_quiet (fail)
   go_wp2
   go_returns
   exact ⟨grown_drewN (grown_refl _ _) _,_,rfl⟩
  ·rw[if_neg hm]
   generalize l.length=n at *
   clear hB h0 hE e2 e3
   go_enter Tryz.func92,Tryz.ntmps92
   go_wp2_with (go_at_call 70;refine HC.out.mono ?_;rintro e w2 ⟨ua,un,uc,rfl,hg2,hs2⟩;have HG2:=hid hg2;have HS2:=hid hs2;clear hg2 hs2)
   go_returns
   exact ⟨HG2.out,_,rfl,HS2.out⟩
theorem calget_err {l:List Nat} {k:Nat} (h:Cal.get l=.error k):k≠0:=by
 unfold Cal.get at h
 repeat' split at h
 all_goals first
  |(have h2:=Except.error.inj h;omega)
  |exact absurd h (by simp)
def momentR (l:List Nat):Except Nat (World→Value→Prop):=match Cal.get l with
 |.ok n=>.ok (fun _ v=>v=.int .i64 (n:Int))
 |.error k=>.error k
theorem rrMoment_any {A:Nat→Addr} {W0 w:World} {F:Nat→Prop} {b:Nat} {s:De.Rd} (h:PrR A W0 F b s w) (hE:AllErrs W0 A) (hS:MoGet A W0) (hnx:∀ l,Top1 s l→l.length≤1000) :
  Calls Tryz.prog 43 #[.pointer (some ⟨b,0,none⟩)] w fun e w'=>∃ v,e=.returned v∧PrROut A W0 F b w w' (.int .i64 0) (readP s 24 momentR) e:=by
 have HN:=hid (prRead_int h hE 24 94 #[] momentR
  (fun l k hk=>by
   unfold momentR at hk
   split at hk
   ·exact absurd hk (by simp)
   ·rename_i k2 hq
    obtain rfl:=Except.error.inj hk;exact calget_err hq)
  (fun l V hV w2 v x hg hv=>by
   unfold momentR at hV
   split at hV
   ·obtain rfl:=Except.ok.inj hV;exact hv
   ·exact absurd hV (by simp))
  (enters_any Tryz.func94 rfl rfl)
  (fun l a c h8 _ hlt hB h0=>(hS _ l w h.base hB (hnx l hlt.2)).mono (fun e w' hp=>by
   obtain ⟨hg,rfl⟩:=hp
   unfold momentR
   cases hq:Cal.get l with
   |ok n=>exact ⟨hg,_,rfl,rfl⟩
   |error k=>exact ⟨hg,_,rfl⟩)))
 generalize readP s 24 momentR=p at *
 clear h hE hS
 go_enter Tryz.func43,Tryz.ntmps43
 go_wp2_with (go_at_call 93;refine HN.out.mono ?_;rintro e w3 hp3;obtain ⟨v,hv,hq⟩:=prROut_val hp3;subst hv;have HQ:=hid hq;clear hp3 hq)
 go_ret
 exact ⟨_,rfl,HQ.out⟩
end Go.Proofs.YtjjbkpjjmbfdhaaGreatDoor
