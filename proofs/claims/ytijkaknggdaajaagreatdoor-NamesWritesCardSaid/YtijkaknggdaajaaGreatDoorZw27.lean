import Derived.Test.YtijkaknggdaajaaGreatDoorZw24
set_option linter.unusedVariables false
set_option linter.unusedSimpArgs false
set_option maxRecDepth 100000
set_option maxHeartbeats 4000000
namespace Go.Proofs.YtijkaknggdaajaaGreatDoor
open Go.Proofs.Tryz
open Lib (hid)
open Go.RowKit
def zBS (A:Nat->Addr) (w w':World) (r:Except Nat (List Nat)) (e:Ending):Prop:=w.grownBy w' none/\match r with
 |.ok l=>∃ a c,e=.returned (.tuple #[.slice a l.length c,.nilIface])/\Bytes w' (.slice a l.length c) l/\Whole0 (.slice a l.length c)
 |.error k=>∃ u,e=.returned (.tuple #[u,errV A k])
def putR (s:De.St) (t:Nat) (r:Except Nat (List Nat)):De.St:=match r with
 |.error k=>{ s with e:=k }
 |.ok l=>De.put s t l
def zJN (r:Except Nat (List Nat)):Prop:=match r with
 |.error k=>k≠0
 |.ok l=>l.length<=1000000000/\∀ x∈l,x<256
theorem FrW.sup {w w3:World} {u:Value} {l:List Nat} (h:FrW w w3 u l) (hl:∀ x∈l,x<256):Sup (fun k=>w.heap.size<=k/\k<w3.heap.size) w3 (fun W=>Bytes W u l/\Whole0 u) :=
 (zFy (Bytes.own h.own hl) (fun k hk=>hk.2) (fun _ k hk=>by
  obtain⟨a,n,c,rfl,rfl⟩:=hk;exact h.own.lt _ rfl)).map fun W hW=>⟨hW,Whole0.own h.own⟩
theorem zCQ {t:Nat} {l:List Nat} (ht:t<256) (hl:∀ x∈l,x<256):∀ x∈Tl.elem t l,x<256:=by
 intro x hx;simp only[Tl.elem,List.cons_append,List.nil_append,List.mem_cons,List.mem_append]at hx;rcases hx with rfl|hx|hx
 ·exact ht
 ·exact Tl.lenB_lt _ x hx
 ·exact hl x hx
theorem fail_err {s:De.St} {k:Nat} (he:s.e=0):De.fail s k={ s with e:=k }:=by unfold De.fail;rw[if_pos he]
theorem zCR {t:Nat} {l:List Nat} (h:¬ 65530<l.length):(Tl.elem t l).length<=70000:=by
 have h1:=Tl.more_le l.length;rw[Tl.elem_len];omega
theorem zF8 {A:Nat->Addr} {W0 w:World} {F:Nat->Prop} {b:Nat} {s:De.St} (h:PrW A W0 F b s w) (hE:AllErrs W0 A) (hl:Lim 2000 s) (t:Nat) (ht:Tl.known (t:Int)=true) (x:Int) (f:Nat) (caps:Array Value) (r:Except Nat (List Nat)) (hr:zJN r)
  (hen:∀ args w,(callFunc f args).run prog w=.ok (.enter f args) w) (hB:∀ W,w.grownBy W none->Calls prog f (#[.int .i64 x]++caps) W fun e w'=>zBS A W w' r e) :
  Calls prog 65 #[.pointer (some ⟨b,0,none⟩),.int .i64 (t:Int),.int .i64 x,.func (.func f) #[] caps] w fun e w'=>zAB A W0 F b w w' (if s.e=0 then putR s t r else s) e:=by
 have HX:=hid h;obtain⟨c2,f2,hbl⟩:=h.err_cell;by_cases he:s.e=0
 ·rw[if_pos he];rw[zAu,if_pos he]at c2;cases r with
  |error k =>
   have hk:k≠0:=hr;have HF:Hid (∀ w2,w.grownBy w2 none->Calls prog 54 #[.pointer (some ⟨b,0,none⟩),errV A k] w2 fun e w'=>zAB A W0 F b w w' (putR s t (.error k)) e):=hid (fun w2 hg=>(zAU (HX.out.grow hg) k hk).mono (fun e w' hp=>by
    rw[fail_err he]at hp;exact HX.out.after hg hp))
   have HBd:=hid hB;clear h he hl ht hr hE hB hk;go_enter func65,ntmps65
   go_wp2_with (first
    |((with_reducible refine(HBd.out _ (zAa _ _)).mono ?_);rintro e w2 ⟨hg2,u,rfl⟩;have HG2:=hid hg2;clear hg2)
    |(go_at_call 54;refine(HF.out _ HG2.out).mono ?_;rintro e w3 ⟨rfl,k1,k2⟩;have K1:=hid k1;have K2:=hid k2;clear k1 k2))
   go_returns
   exact⟨rfl,K1.out,K2.out⟩
  |ok l =>
   obtain⟨hll,hl8⟩:l.length<=1000000000/\∀ x∈l,x<256:=hr
   have htn:=Tl.known_nat (t:Int) ht;by_cases hbig:65530<l.length
   ·have hst:putR s t (.ok l)={ s with e:=3 }:=by show De.put s t l=_;unfold De.put;rw[if_pos hbig]
    rw[hst];have HF:Hid (∀ w2,w.grownBy w2 none->Calls prog 54 #[.pointer (some ⟨b,0,none⟩),errV A 3] w2 fun e w'=>zAB A W0 F b w w' { s with e:=3 } e):=hid (fun w2 hg=>(zAU (HX.out.grow hg) 3 (by decide)).mono (fun e w' hp=>by
     rw[fail_err he]at hp;exact HX.out.after hg hp))
    have HP:Hid (∀ a c W,w.grownBy W none->Bytes W (.slice a l.length c) l->Whole0 (.slice a l.length c)->Calls prog 105 #[.agg #[.int .i64 (t:Int),.slice a l.length c]] W fun e w'=>e=.returned (.tuple #[.slice none 0 0,errV A 3])/\W.grownBy w' none):=hid (fun a c W hW hb h0=>(zB2 A t _ l W hb h0 (by omega) (hE.grown (zAb HX.out.base hW))).mono (fun e w' hp=>by
     obtain⟨hp,hg⟩:=hp;unfold zBe at hp;rw[if_neg (by rw[ht];simp),if_pos hbig]at hp;exact⟨hp,hg⟩))
    have HBd:=hid hB;obtain⟨n,hn⟩:∃ n,n=l.length:=⟨_,rfl⟩
    clear h he hl ht hE hB hll hl8 hbig hst htn;go_enter func65,ntmps65
    go_wp2_with (first
     |((with_reducible refine(HBd.out _ (zAa _ _)).mono ?_);rintro e w2 ⟨hg2,a,c,rfl,hb2,h02⟩;have HG2:=hid hg2;have HB2:=hid hb2;have H02:=hid h02;clear hg2 hb2 h02)
     |(go_at_call 105;refine(HP.out _ _ _ HG2.out HB2.out H02.out).mono ?_;rintro e w3 ⟨rfl,hg3⟩;have HG3:=hid (zAb HG2.out hg3);clear hg3)
     |(go_at_call 54;refine(HF.out _ HG3.out).mono ?_;rintro e w4 ⟨rfl,k1,k2⟩;have K1:=hid k1;have K2:=hid k2;clear k1 k2))
    go_returns
    exact⟨rfl,K1.out,K2.out⟩
   ·have hst:putR s t (.ok l)=De.add s (Tl.elem t l):=by show De.put s t l=_;unfold De.put;rw[if_neg hbig]
    rw[hst];have HAd:Hid (∀ w2 x,FrW w w2 x (Tl.elem t l)->Calls prog 106 #[.pointer (some ⟨b,0,none⟩),x] w2 fun e w'=>zAB A W0 F b w w' (De.add s (Tl.elem t l)) e):=hid (fun w2 x hx=>zDw HX.out he hl (zCR hbig) hx.grown (hx.sup (zCQ (by omega) hl8)));have HP:Hid (∀ a c W,w.grownBy W none->Bytes W (.slice a l.length c) l->Whole0 (.slice a l.length c)->Calls prog 105 #[.agg #[.int .i64 (t:Int),.slice a l.length c]] W fun e w'=>∃ u,e=.returned (.tuple #[u,.nilIface])/\FrW w w' u (Tl.elem t l)):=hid (fun a c W hW hb h0=>(zB2 A t _ l W hb h0 (by omega) (hE.grown (zAb HX.out.base hW))).mono (fun e w' hp=>by
     obtain⟨hp,hg⟩:=hp;unfold zBe at hp;rw[if_neg (by rw[ht];simp),if_neg hbig]at hp;obtain⟨u,h1,h2⟩:=hp;exact⟨u,h1,h2.of hW⟩))
    have HBd:=hid hB;obtain⟨n,hn⟩:∃ n,n=l.length:=⟨_,rfl⟩
    clear h he hl ht hE hB hll hl8 hbig hst htn;go_enter func65,ntmps65
    go_wp2_with (first
     |((with_reducible refine(HBd.out _ (zAa _ _)).mono ?_);rintro e w2 ⟨hg2,a,c,rfl,hb2,h02⟩;have HG2:=hid hg2;have HB2:=hid hb2;have H02:=hid h02;clear hg2 hb2 h02)
     |(go_at_call 105;refine(HP.out _ _ _ HG2.out HB2.out H02.out).mono ?_;rintro e w3 ⟨u,rfl,hf3⟩;have F3:=hid hf3;clear hf3)
     |(go_at_call 106;refine(HAd.out _ _ F3.out).mono ?_;rintro e w4 ⟨rfl,k1,k2⟩;have K1:=hid k1;have K2:=hid k2;clear k1 k2))
    go_returns
    exact⟨rfl,K1.out,K2.out⟩
 ·rw[if_neg he];rw[zAu,if_neg he]at c2;have HK:=hid HX.out.same;clear h he hE hB;go_enter func65,ntmps65
  go_wp2
  go_returns
  exact⟨rfl,HK.out⟩
theorem zDu {A:Nat->Addr} {W0 w:World} {F:Nat->Prop} {b:Nat} {s:De.St} (h:PrW A W0 F b s w) (hE:AllErrs W0 A) (hl:Lim 2000 s) (t:Nat) (ht:Tl.known (t:Int)=true) (x:ByteArray) (f:Nat) (caps:Array Value) (r:Except Nat (List Nat)) (hr:zJN r)
  (hen:∀ args w,(callFunc f args).run prog w=.ok (.enter f args) w) (hB:∀ W,w.grownBy W none->Calls prog f (#[.string x]++caps) W fun e w'=>zBS A W w' r e) :
  Calls prog 101 #[.pointer (some ⟨b,0,none⟩),.int .i64 (t:Int),.string x,.func (.func f) #[] caps] w fun e w'=>zAB A W0 F b w w' (if s.e=0 then putR s t r else s) e:=by
 have HX:=hid h;obtain⟨c2,f2,hbl⟩:=h.err_cell;by_cases he:s.e=0
 ·rw[if_pos he];rw[zAu,if_pos he]at c2;cases r with
  |error k =>
   have hk:k≠0:=hr;have HF:Hid (∀ w2,w.grownBy w2 none->Calls prog 54 #[.pointer (some ⟨b,0,none⟩),errV A k] w2 fun e w'=>zAB A W0 F b w w' (putR s t (.error k)) e):=hid (fun w2 hg=>(zAU (HX.out.grow hg) k hk).mono (fun e w' hp=>by
    rw[fail_err he]at hp;exact HX.out.after hg hp))
   have HBd:=hid hB;clear h he hl ht hr hE hB hk;go_enter func101,ntmps101
   go_wp2_with (first
    |((with_reducible refine(HBd.out _ (zAa _ _)).mono ?_);rintro e w2 ⟨hg2,u,rfl⟩;have HG2:=hid hg2;clear hg2)
    |(go_at_call 54;refine(HF.out _ HG2.out).mono ?_;rintro e w3 ⟨rfl,k1,k2⟩;have K1:=hid k1;have K2:=hid k2;clear k1 k2))
   go_returns
   exact⟨rfl,K1.out,K2.out⟩
  |ok l =>
   obtain⟨hll,hl8⟩:l.length<=1000000000/\∀ x∈l,x<256:=hr
   have htn:=Tl.known_nat (t:Int) ht;by_cases hbig:65530<l.length
   ·have hst:putR s t (.ok l)={ s with e:=3 }:=by show De.put s t l=_;unfold De.put;rw[if_pos hbig]
    rw[hst];have HF:Hid (∀ w2,w.grownBy w2 none->Calls prog 54 #[.pointer (some ⟨b,0,none⟩),errV A 3] w2 fun e w'=>zAB A W0 F b w w' { s with e:=3 } e):=hid (fun w2 hg=>(zAU (HX.out.grow hg) 3 (by decide)).mono (fun e w' hp=>by
     rw[fail_err he]at hp;exact HX.out.after hg hp))
    have HP:Hid (∀ a c W,w.grownBy W none->Bytes W (.slice a l.length c) l->Whole0 (.slice a l.length c)->Calls prog 105 #[.agg #[.int .i64 (t:Int),.slice a l.length c]] W fun e w'=>e=.returned (.tuple #[.slice none 0 0,errV A 3])/\W.grownBy w' none):=hid (fun a c W hW hb h0=>(zB2 A t _ l W hb h0 (by omega) (hE.grown (zAb HX.out.base hW))).mono (fun e w' hp=>by
     obtain⟨hp,hg⟩:=hp;unfold zBe at hp;rw[if_neg (by rw[ht];simp),if_pos hbig]at hp;exact⟨hp,hg⟩))
    have HBd:=hid hB;obtain⟨n,hn⟩:∃ n,n=l.length:=⟨_,rfl⟩
    clear h he hl ht hE hB hll hl8 hbig hst htn;go_enter func101,ntmps101
    go_wp2_with (first
     |((with_reducible refine(HBd.out _ (zAa _ _)).mono ?_);rintro e w2 ⟨hg2,a,c,rfl,hb2,h02⟩;have HG2:=hid hg2;have HB2:=hid hb2;have H02:=hid h02;clear hg2 hb2 h02)
     |(go_at_call 105;refine(HP.out _ _ _ HG2.out HB2.out H02.out).mono ?_;rintro e w3 ⟨rfl,hg3⟩;have HG3:=hid (zAb HG2.out hg3);clear hg3)
     |(go_at_call 54;refine(HF.out _ HG3.out).mono ?_;rintro e w4 ⟨rfl,k1,k2⟩;have K1:=hid k1;have K2:=hid k2;clear k1 k2))
    go_returns
    exact⟨rfl,K1.out,K2.out⟩
   ·have hst:putR s t (.ok l)=De.add s (Tl.elem t l):=by show De.put s t l=_;unfold De.put;rw[if_neg hbig]
    rw[hst];have HAd:Hid (∀ w2 x,FrW w w2 x (Tl.elem t l)->Calls prog 106 #[.pointer (some ⟨b,0,none⟩),x] w2 fun e w'=>zAB A W0 F b w w' (De.add s (Tl.elem t l)) e):=hid (fun w2 x hx=>zDw HX.out he hl (zCR hbig) hx.grown (hx.sup (zCQ (by omega) hl8)));have HP:Hid (∀ a c W,w.grownBy W none->Bytes W (.slice a l.length c) l->Whole0 (.slice a l.length c)->Calls prog 105 #[.agg #[.int .i64 (t:Int),.slice a l.length c]] W fun e w'=>∃ u,e=.returned (.tuple #[u,.nilIface])/\FrW w w' u (Tl.elem t l)):=hid (fun a c W hW hb h0=>(zB2 A t _ l W hb h0 (by omega) (hE.grown (zAb HX.out.base hW))).mono (fun e w' hp=>by
     obtain⟨hp,hg⟩:=hp;unfold zBe at hp;rw[if_neg (by rw[ht];simp),if_neg hbig]at hp;obtain⟨u,h1,h2⟩:=hp;exact⟨u,h1,h2.of hW⟩))
    have HBd:=hid hB;obtain⟨n,hn⟩:∃ n,n=l.length:=⟨_,rfl⟩
    clear h he hl ht hE hB hll hl8 hbig hst htn;go_enter func101,ntmps101
    go_wp2_with (first
     |((with_reducible refine(HBd.out _ (zAa _ _)).mono ?_);rintro e w2 ⟨hg2,a,c,rfl,hb2,h02⟩;have HG2:=hid hg2;have HB2:=hid hb2;have H02:=hid h02;clear hg2 hb2 h02)
     |(go_at_call 105;refine(HP.out _ _ _ HG2.out HB2.out H02.out).mono ?_;rintro e w3 ⟨u,rfl,hf3⟩;have F3:=hid hf3;clear hf3)
     |(go_at_call 106;refine(HAd.out _ _ F3.out).mono ?_;rintro e w4 ⟨rfl,k1,k2⟩;have K1:=hid k1;have K2:=hid k2;clear k1 k2))
    go_returns
    exact⟨rfl,K1.out,K2.out⟩
 ·rw[if_neg he];rw[zAu,if_neg he]at c2;have HK:=hid HX.out.same;clear h he hE hB;go_enter func101,ntmps101
  go_wp2
  go_returns
  exact⟨rfl,HK.out⟩
theorem mkFn (fn:Fn) (first cap:Array Value) (w:World):(Instr.makeFunc fn first cap).run prog w=.ok (.func fn first cap) w:=rfl
theorem oput_len (l:List Int) {t:List Nat} (h:Od.parse t=.ok l):(Od.put l).length<=2000:=by
 have hr:=((Od.right_iff l).1 (Od.parse_ok h).2).1;have h1:=Od.rest_len (l.drop 2);have h2:=Od.septUpto_len (40*(l.getD 0 0).toNat+(l.getD 1 0).toNat) 6;rw[List.length_drop]at h1
 show(Od.septUpto _ 6++_).length<=_
 rw[List.length_append];omega
theorem zJI {l:List Nat} {m:Int} (h:Pt.asked l m=0):0<l.length:=by
 unfold Pt.asked at h;by_cases h0:l.length=0
 ·rw[if_pos h0]at h;exact absurd h (by decide)
 ·omega
theorem zDk {s:De.St} {v:De.Val} {t:Nat} {r:Except Nat (List Nat)} (h1:v.kind≠1) (h2:v.kind≠2) (h11:v.kind≠11) (hb:De.body v=match r with
  |.ok l=>.ok (t,l)
  |.error k=>.error k):De.step s v=if s.e=0 then putR s t r else s:=by
 unfold De.step;by_cases he:s.e=0
 ·rw[if_pos he,if_neg (fun h=>h he),if_neg h1,if_neg h2,if_neg h11];unfold De.plainV;rw[hb];cases r <;> rfl
 ·rw[if_neg he,if_pos he]
structure BodiesOf (A:Nat->Addr) (w:World):Prop where
 errs:AllErrs w A
 texts:zMB A w
 oid:zK1 A w
theorem zAW {f:FuncId} {fn:Func} {c:Code} (hf:prog.funcs[f]?=some fn) (hname:(fn.name == "runtime.NumGoroutine")=false) (hb:fn.body=some c):∀ args w,(callFunc f args).run prog w=.ok (.enter f args) w:=enters_of hf hname hb
theorem zJV (g:Nat) (w:World):Calls prog 66 #[.func (.func g) #[] #[]] w fun e w'=>e=.returned (.func (.func 107) #[] #[.pointer (some ⟨w.heap.size,0,none⟩)])/\w'=w.alloc (.cells #[.func (.func g) #[] #[]] 116):=by
 have hmf:=mkFn;go_enter func66,ntmps66
 go_wp2
 go_ret
 exact⟨rfl,rfl⟩
theorem zFJ (A:Nat->Addr) (g bx:Nat) (x:Int) (l:List Nat) (w:World) (hx:w.cell? ⟨bx,0,none⟩=some (.func (.func g) #[] #[])) (hen:∀ args w,(callFunc g args).run prog w=.ok (.enter g args) w)
  (hB:Calls prog g #[.int .i64 x] w fun e w'=>∃ a c,e=.returned (.slice a l.length c)/\w.grownBy w' none/\Bytes w' (.slice a l.length c) l/\Whole0 (.slice a l.length c)) :
  Calls prog 107 #[.int .i64 x,.pointer (some ⟨bx,0,none⟩)] w fun e w'=>zBS A w w' (.ok l) e:=by
 have HB:=hid hB;obtain⟨n,hn⟩:∃ n,n=l.length:=⟨_,rfl⟩
 clear hB;go_enter func107,ntmps107
 go_wp2_with ((with_reducible refine HB.out.mono ?_);rintro e w2 ⟨a,c,rfl,hg2,hb2,h02⟩;have HG2:=hid hg2;have HB2:=hid hb2;have H02:=hid h02;clear hg2 hb2 h02)
 go_ret2
 exact⟨HG2.out,_,_,rfl,HB2.out,H02.out⟩
theorem zIN {A:Nat->Addr} {W0 w:World} {F:Nat->Prop} {b:Nat} {s:De.St} (h:PrW A W0 F b s w) (hA:BodiesOf A W0) (hl:Lim 2000 s) (v:De.Val) (hk:v.kind=8) (S:ByteArray) (hS:strL S=v.t) (hz:S.size<=2000) :
  Calls prog 63 #[.pointer (some ⟨b,0,none⟩),.string S] w fun e w'=>zAB A W0 F b w w' (De.step s v) e:=by
 have HX:=hid h;obtain⟨R,hR⟩:∃ R:Except Nat (List Nat),R=(match Od.parse v.t with | .error e=>.error e | .ok l=>.ok (Od.put l)):=⟨_,rfl⟩
 have hst:De.step s v=if s.e=0 then putR s 6 R else s:=zDk (by omega) (by omega) (by omega) (by rw[hR];unfold De.body;rw[if_neg (by omega),if_neg (by omega),if_neg (by omega),if_neg (by omega),if_neg (by omega),if_pos hk];cases Od.parse v.t <;> rfl)
 have HW:Hid (Calls prog 101 #[.pointer (some ⟨b,0,none⟩),.int .i64 6,.string S,.func (.func 102) #[] #[]] w fun e w'=>zAB A W0 F b w w' (De.step s v) e):=hid (by
  rw[hst];refine zDu HX.out hA.errs hl 6 (by decide) _ 102 #[] R ?_ (zAW func102 (by kernel_rfl) rfl) (fun W2 hg2=>?_)
  ·rw[hR];cases hp:Od.parse v.t with
   |error e=>exact De.parse_err hp
   |ok l=>exact⟨by have:=oput_len l hp;omega,De.oput_lt l⟩
  ·rw[hR];have hq:=hA.oid S W2 (by omega) (zAb HX.out.base hg2);rw[hS]at hq;refine hq.mono (fun e w' hp=>?_);obtain⟨g1,g2⟩:=hp;refine⟨g1,?_⟩;cases hp:Od.parse v.t with
   |error e2 =>
    rw[hp]at g2;obtain⟨a,c,g3,_⟩:=g2;exact⟨_,g3⟩
   |ok l =>
    rw[hp]at g2;obtain⟨a,c,g3,g4⟩:=g2;exact⟨a,c,g3,g4⟩)
 clear h hst hl hA hR;go_enter func63,ntmps63
 go_wp2_with (go_at_call 101;refine HW.out.mono ?_;rintro e w3 ⟨rfl,k1,k2⟩;have K1:=hid k1;have K2:=hid k2;clear k1 k2)
 go_returns
 exact⟨rfl,K1.out,K2.out⟩
theorem zK8 (A:Nat->Addr) (W0:World) (hA:BodiesOf A W0) (bx:Nat) (S:ByteArray) (m:Int) (hm:De.I64 m) (w:World) (hw:W0.grownBy w none) (hx:w.cell? ⟨bx,0,none⟩=some (.int .i64 m)) (hz:S.size<=2000) :
  Calls prog 103 #[.string S,.pointer (some ⟨bx,0,none⟩)] w fun e w'=>zBS A w w' (if Pt.asked (strL S) m=0 then .ok (strL S)else .error (Pt.asked (strL S) m)) e:=by
 obtain⟨R,hR⟩:∃ R:Except Nat (List Nat),R=if Pt.asked (strL S) m=0 then .ok (strL S)else .error (Pt.asked (strL S) m):=⟨_,rfl⟩
 rw[<-hR];have HP:Hid (Calls prog 104 #[.string S,.int .i64 m] w fun e w'=>∃ x y,e=.returned (.tuple #[x,y])/\zBS A w w' R (.returned (.tuple #[x,y]))):=hid ((hA.texts S m w hz hm hw).mono (fun e w' hp=>by
  rw[hR];obtain⟨g1,g2⟩:=hp;by_cases ha:Pt.asked (strL S) m=0
  ·rw[if_pos ha]at g2;obtain⟨a,c,g3,g4⟩:=g2;refine⟨_,_,g3,g1,?_⟩;rw[if_pos ha];have hz2:S.size=(strL S).length:=(zAx S).symm;rw[hz2]at g3 g4 ⊢;exact⟨a,c,rfl,g4,zEL g4 (zJI ha)⟩
  ·rw[if_neg ha]at g2;obtain⟨a,c,g3⟩:=g2;refine⟨_,_,g3,g1,?_⟩;rw[if_neg ha];exact⟨_,rfl⟩))
 clear hA hm hw hR;go_enter func103,ntmps103
 go_wp2_with (go_at_call 104;refine HP.out.mono ?_;rintro e w2 ⟨x,y,rfl,hp⟩;have HQ:=hid hp;clear hp)
 go_ret2
 exact HQ.out
theorem zHv {A:Nat->Addr} {W0 w:World} {F:Nat->Prop} {b:Nat} {s:De.St} (h:PrW A W0 F b s w) (hA:BodiesOf A W0) (hl:Lim 2000 s) (v:De.Val) (hk:v.kind=7) (hn:De.I64 v.n) (S:ByteArray) (hS:strL S=v.t) (hz:S.size<=2000) :
  Calls prog 64 #[.pointer (some ⟨b,0,none⟩),.string S,.int .i64 v.n] w fun e w'=>zAB A W0 F b w w' (De.step s v) e:=by
 have hmf:=mkFn;have HX:=hid h;obtain⟨R,hR⟩:∃ R:Except Nat (List Nat),R=if Pt.asked (strL S) v.n=0 then .ok (strL S)else .error (Pt.asked (strL S) v.n):=⟨_,rfl⟩
 have hst:De.step s v=if s.e=0 then putR s 12 R else s:=zDk (by omega) (by omega) (by omega) (by
  rw[hR,hS];unfold De.body;rw[if_neg (by omega),if_neg (by omega),if_neg (by omega),if_neg (by omega),if_pos hk];split <;> rfl)
 have HW:Hid (∀ W,W=w.alloc (.cells #[.int .i64 v.n] 3)->Calls prog 101 #[.pointer (some ⟨b,0,none⟩),.int .i64 12,.string S,.func (.func 103) #[] #[.pointer (some ⟨w.heap.size,0,none⟩)]] W fun e w'=>zAB A W0 F b w w' (De.step s v) e):=hid (fun W hW=>by
  rw[hst];subst hW;have hga:=World.grownBy_alloc w (.cells #[.int .i64 v.n] 3) none;refine(zDu (HX.out.grow hga) hA.errs hl 12 (by decide) _ 103 #[.pointer (some ⟨w.heap.size,0,none⟩)] R ?_ (zAW func103 (by kernel_rfl) rfl) (fun W2 hg2=>?_)).mono (fun e w' hp=>HX.out.after hga hp)
  ·rw[hR];split
   ·exact⟨by rw[zAx];omega,strL_lt S⟩
   ·assumption
  ·rw[hR];exact zK8 A W0 hA w.heap.size S v.n hn W2 (zAb HX.out.base (zAb hga hg2)) ((World.cell?_of_block (hg2.block w.heap.size (by rw[zAe];omega) (by simp))).trans (cell_blk (alloc_at _ _) 0 rfl)) hz)
 clear h hst hl hA hR hn;obtain⟨m,hm⟩:∃ m,m=v.n:=⟨_,rfl⟩
 rw[<-hm]at HW ⊢;clear hm;go_enter func64,ntmps64
 go_wp2_with (go_at_call 101;refine(HW.out _ rfl).mono ?_;rintro e w3 ⟨rfl,k1,k2⟩;have K1:=hid k1;have K2:=hid k2;clear k1 k2)
 go_returns
 exact⟨rfl,K1.out,K2.out⟩
theorem zJK:∀ (f:Nat) (b:List Nat) (k:Nat),De.all f b=.error k->k≠0
 |0,_,_,h=>absurd h (by simp[De.all])
 |f+1,b,k,h=>by
  rw[De.all]at h;by_cases hb:b=[]
  ·rw[if_pos hb]at h;exact absurd h (by simp)
  rw[if_neg hb]at h;cases hq:Tl.first b with
  |error e=>rw[hq]at h;obtain rfl:=Except.error.inj h;exact De.first_err hq
  |ok p =>
   obtain⟨t,i,n⟩:=p;rw[hq]at h;have h:(match De.all f (b.drop (i+n))with | .error e=>(Except.error e:Except Nat (List (Nat×List Nat))) | .ok r=>.ok ((t,(b.drop i).take n) :: r))=.error k:=h;cases hr:De.all f (b.drop (i+n))with
   |error e=>rw[hr]at h;obtain rfl:=Except.error.inj h;exact zJK f _ _ hr
   |ok r=>rw[hr]at h;exact absurd h (by simp)
theorem zCd {A:Nat->Addr} {W0 w:World} {F:Nat->Prop} {b:Nat} {s:De.Rd} (h:PrR A W0 F b s w) (hE:AllErrs W0 A) (tag:Int) :
  Calls prog 34 #[.pointer (some ⟨b,0,none⟩),.int .i64 tag] w fun e w'=>Upto F w w'/\PrR A W0 (Ext F w w') b (De.enter s tag).1 w'/\e=.returned (.bool (De.enter s tag).2):=by
 obtain⟨W1,hW1⟩:∃ W1,W1=w.alloc (.cells #[.int .i64 tag] 3):=⟨_,rfl⟩
 have hga:w.grownBy W1 none:=by rw[hW1];exact World.grownBy_alloc _ _ _
 have ctb:W1.cell? ⟨w.heap.size,0,none⟩=some (.int .i64 tag):=by rw[hW1];exact cell_blk (alloc_at _ _) 0 rfl
 have hbl:=h.err_cell.2.2;have hb1:b<W1.heap.size:=Nat.lt_of_lt_of_le hbl hga.size;have hsane:De.Sane s:=fun he=>by obtain⟨la,lc,oa,oc,h1,h2⟩:=h.at0 he;exact h2.sane he
 have hmf:=mkFn;have HR:=hid (zHy (h.grow hga) hE tag 75 #[.pointer (some ⟨w.heap.size,0,none⟩)] (getE W1 b tag)
  (fun l k hk=>by
   unfold getE zHE at hk;split at hk
   ·cases hq:De.all l.length l with
    |error k2 =>
     rw[hq]at hk;obtain rfl:=Except.error.inj hk;exact zJK _ _ _ hq
    |ok ps=>rw[hq]at hk;exact absurd hk (by simp)
   ·obtain rfl:=Except.error.inj hk;decide)
  (fun l V hV w2 v x hg hv=>by
   unfold getE zHE at hV;split at hV
   ·cases hq:De.all l.length l with
    |error k2=>rw[hq]at hV;exact absurd hV (by simp)
    |ok ps =>
     rw[hq]at hV;obtain rfl:=Except.ok.inj hV;obtain⟨v1,v2⟩:=hv;refine⟨?_,(World.cell?_setCell_other (w:=w2) _ _ _ (by simp)).trans v2⟩;have hu:Upto (fun k=>k=b) w2 (w2.setCell ⟨b,0,none⟩ x):=⟨rfl,rfl,rfl,by rw[zAk];exact Nat.le_refl _,fun k hk hm=>Below.heap_setCell _ _ _ _ (fun e=>hm e)⟩;refine(v1.upto hu (fun k hk e=>by omega)).mono (fun k hk=>by rw[zAk];exact hk) (fun k hk=>hk.2)
   ·exact absurd hV (by simp))
  (zAW func75 rfl rfl)
  (fun l a c h8 hl _ hB h0=>zHQ A l a c w.heap.size tag W1 ctb h8 hl hB h0 (hE.grown (zAV h.base hga)) b hb1))
 have HX0:=hid h;have HG0:=hid hga;rcases zGr hsane tag W1 b with⟨s2,e1,e2,e3,e4⟩|⟨s2,body,e1,e2,e3,e4,e5⟩
 ·rw[e1]at HR;rw[e3];have HK:Hid (∀ w3,Upto (Ext F w W1) W1 w3->PrR A W0 (Ext (Ext F w W1) W1 w3) b s2 w3->w3.cell? ⟨b,2,none⟩=some (errV A s2.e)/\Upto F w w3/\PrR A W0 (Ext F w w3) b (De.enter s tag).1 w3):=hid (fun w3 k1 k2=>by
   obtain⟨d,_,_⟩:=k2.err_cell;rw[zAu,if_neg e2]at d;have:=HX0.out.join2 ⟨Upto.of_grown F HG0.out,HX0.out.grow HG0.out⟩ ⟨k1,k2.err_any e2 e4⟩;exact⟨d,this.1,this.2⟩)
  have HW1:Hid (w.alloc (.cells #[.int .i64 tag] 3)=W1):=hid hW1.symm;generalize (De.enter s tag).1=s9 at *;clear h hE hsane e1 e2 e3 e4 hW1 HG0 HX0;go_enter func34,ntmps34
  go_wp2_with (go_at_call 74;rw[HW1.out];refine HR.out.mono ?_;rintro e w3 ⟨k1,k2,rfl⟩;obtain⟨d,k3,k4⟩:=HK.out w3 k1 k2;have K3:=hid k3;have K4:=hid k4;clear k1 k2 k3 k4)
  go_ret
  exact⟨K3.out,K4.out,rfl⟩
 ·rw[e1]at HR;rw[e4];have HW1:Hid (w.alloc (.cells #[.int .i64 tag] 3)=W1):=hid hW1.symm;by_cases he:s.e=0
  ·obtain⟨la,lc,oa,oc,h1,h2⟩:=h.at0 he;have c1w:w.cell? ⟨b,1,none⟩=some (.slice oa s.left.length oc):=cell_blk h1 1 rfl;obtain⟨ys0,hys0,_⟩:=h2.out;have hovl:∀ k,(Value.slice oa s.left.length oc).ownBlock=some k->k<w.heap.size:=fun k hk=>(zEk hys0 hk).2
   have HK:Hid (∀ w3 v,Upto (Ext F w W1) W1 w3->PrR A W0 (Ext (Ext F w W1) W1 w3) b s2 w3->(Sup (fun k=>W1.heap.size<=k/\k<w3.heap.size) w3 (fun X=>ElsV X v (De.elems body))/\w3.cell? ⟨b,1,none⟩=W1.cell? ⟨b,1,none⟩) ->
     ∃ la3 ln3 lc3 on3 va vn vc ys,v=.slice va vn vc/\w3.cell? ⟨b,0,none⟩=some (.slice la3 ln3 lc3)/\w3.cell? ⟨b,1,none⟩=some (.slice oa on3 oc)/\w3.cell? ⟨b,2,none⟩=some .nilIface/\w3.frozen? ⟨b,0,none⟩=false/\w3.frozen? ⟨b,1,none⟩=false/\b<w3.heap.size/\on3<=16/\w3.ownsRow 0 123 1 (.slice oa on3 oc) on3 ys /\
      (∀ wq w5 ov',w3.grownBy wq none->w5.ownsRow 0 123 1 ov' (on3+1) (ys++[.slice la3 ln3 lc3])->wq.grownBy w5 (Value.slice oa on3 oc).ownBlock->(ov'.ownBlock=(Value.slice oa on3 oc).ownBlock∨ov'.ownBlock=some wq.heap.size) ->
       w5.cell? ⟨b,1,none⟩=some (.slice oa on3 oc)/\w5.frozen? ⟨b,1,none⟩=false/\w5.cell? ⟨b,0,none⟩=some (.slice la3 ln3 lc3)/\w5.frozen? ⟨b,0,none⟩=false /\
       Upto F w ((w5.setCell ⟨b,1,none⟩ ov').setCell ⟨b,0,none⟩ (.slice va vn vc))/\PrR A W0 (Ext F w ((w5.setCell ⟨b,1,none⟩ ov').setCell ⟨b,0,none⟩ (.slice va vn vc))) b { s2 with top:=body,left:=s2.top :: s2.left } ((w5.setCell ⟨b,1,none⟩ ov').setCell ⟨b,0,none⟩ (.slice va vn vc)))):=hid (fun w3 v k1 k2 ⟨k3,k4⟩=>by
    obtain⟨la3,lc3,oa3,oc3,q1,q2⟩:=k2.at0 e2;have d0:w3.cell? ⟨b,0,none⟩=some (.slice la3 (De.elems s2.top).length lc3):=cell_blk q1 0 rfl;have d1:w3.cell? ⟨b,1,none⟩=some (.slice oa3 s2.left.length oc3):=cell_blk q1 1 rfl;have d1':w3.cell? ⟨b,1,none⟩=some (.slice oa s.left.length oc):=k4.trans ((World.cell?_of_block (HG0.out.block b hbl (by simp))).trans c1w);rw[d1]at d1';simp only[Option.some.injEq,Value.slice.injEq]at d1';obtain⟨rfl,hln,rfl⟩:=d1';obtain⟨va,vg,vo,vc,hv,_⟩:=k3.now;obtain⟨ys,r1,r2⟩:=q2.out;obtain⟨kk,hkk,_⟩:=q2.sane e2;have hb3:=zAi q1;refine⟨la3,_,lc3,s2.left.length,va,_,vc,ys,hv,d0,d1,cell_blk q1 2 rfl,zAh q1 0,zAh q1 1,hb3,by omega,r1,fun wq w5 ov' g1 g2 g3 g4=>?_⟩;have hb5:w5.heap[b]?=w3.heap[b]?:=(g3.block b (by have:=g1.size;omega) (fun e=>q2.rov e.symm)).trans (g1.block b hb3 (by simp));refine⟨(World.cell?_of_block hb5).trans d1,(World.frozen?_of_block hb5).trans (zAh q1 1),(World.cell?_of_block hb5).trans d0,(World.frozen?_of_block hb5).trans (zAh q1 0),?_⟩;have hvI:Sup (ImM W0 (Ext (Ext F w W1) W1 w3) (MutR b (.slice oa3 s2.left.length oc3))) w3 (fun X=>ElsV X v (De.elems body)):=by
     refine k3.mono (fun k hk=>⟨.inl (.inr hk),fun hm=>?_⟩) (fun k hk=>?_)
     ·have h1s:=HG0.out.size;rcases hm with hm|hm
      ·omega
      ·have:=hovl k (by rw[<-hln];exact hm);omega
     ·rcases hk.1 with hk|hk
      ·exact(k2.own k hk).2
      ·exact Nat.lt_of_lt_of_le hk k2.base.size
    have T:=k2.enters q1 e2 q2 e5 hvI r2 (by have:=r1.1;omega) g1 g2 g3 g4;rw[hv]at T;have J1:=HX0.out.join2 ⟨Upto.of_grown F HG0.out,HX0.out.grow HG0.out⟩ ⟨k1,k2⟩;have hs1:=HG0.out.size;have hs3:=k1.size;have T2:=(PrR.iff T.2 (G:=Ext (Ext F w w3) w3 ((w5.setCell ⟨b,1,none⟩ ov').setCell ⟨b,0,none⟩ (.slice va (De.elems body).length vc))) (fun k=>?_))
    ·exact HX0.out.join2 J1 ⟨T.1.mono (fun k hk hf=>hf.elim (fun hf=>hf.elim .inl (fun hf=>.inr ⟨hf.1,by omega⟩)) (fun hf=>.inr ⟨by omega,hf.2⟩)),T2⟩
    ·have:=T.1.size;constructor
     ·rintro((hk|hk)|hk)
      ·exact .inl (.inl (.inl hk))
      ·by_cases hk1:k<W1.heap.size
       ·exact .inl (.inl (.inr ⟨hk.1,hk1⟩))
       ·exact .inl (.inr ⟨by omega,hk.2⟩)
      ·exact .inr hk
     ·rintro(((hk|hk)|hk)|hk)
      ·exact .inl (.inl hk)
      ·exact .inl (.inr ⟨hk.1,by omega⟩)
      ·exact .inl (.inr ⟨by omega,hk.2⟩)
      ·exact .inr hk)
   have HI:=hid iLE;generalize ({ s2 with top:=body,left:=s2.top :: s2.left }:De.Rd)=s9 at *;clear h hE hsane e1 e2 e3 e4 e5 hW1 HG0 HX0 h1 h2 c1w hys0 hovl he hbl hb1 ctb hga;go_enter func34,ntmps34
   go_wp2_with (go_at_call 74;rw[HW1.out];refine HR.out.mono ?_;rintro e w3 ⟨k1,k2,v,rfl,hv⟩;obtain⟨la3,ln3,lc3,on3,va,vn,vc,ys,rfl,d0,d1,d2,f0,f1,hb3,hn,hrow,HGx⟩:=HK.out w3 v k1 k2 hv;have HG:=hid HGx;have HO:=hid hrow;clear k1 k2 hv HGx hrow)
   have gd:w3.grownBy w3.drew none:=zAd (zAa _ _) 1;have GD:=hid gd;have gda:w3.grownBy (w3.alloc (.cells #[.slice la3 ln3 lc3] 123)).drew none:=zAd (zAc (zAa _ _) _) 1;have GDA:=hid gda;have KS:Hid (∀ w',w3.grownBy w' none->w'.cell? ⟨b,0,none⟩=some (.slice la3 ln3 lc3)):=hid (fun w' hg'=>(World.cell?_of_block (hg'.block b hb3 (by simp))).trans d0);have e1:(w3.alloc (.cells #[.slice la3 ln3 lc3] 123)).cell? ⟨b,1,none⟩=some (.slice oa on3 oc):=(World.cell?_of_block (zCG _ _ _ hb3)).trans d1;have HOA:=hid (HO.out.kept gda (Classical.em _));have HN:Hid (∀ j u,([.slice la3 ln3 lc3]:List Value)[j]?=some u->(w3.alloc (.cells #[.slice la3 ln3 lc3] 123)).drew.cell? ((⟨w3.heap.size,0,none⟩:Addr).add j)=some u):=hid (by intro j u hj;rw[addr_addO,Nat.zero_add];exact cell_blk (alloc_at w3 _) j (by simpa using hj));clear gd gda d0 HK HR;refine wp_region_held_drew (S:=(fun w'=>w'.cell? ⟨b,0,none⟩=some (.slice la3 ln3 lc3))) (by kernel_rfl) (by first|(dsimp only;(first|exact KS.out _ GD.out|exact KS.out _ GDA.out|exact K10.out|exact(World.cell?_setCell_other (w:=w10) _ _ _ (by simp)).trans K10.out))|(first|exact KS.out _ GD.out|exact KS.out _ GDA.out|exact K10.out|exact(World.cell?_setCell_other (w:=w10) _ _ _ (by simp)).trans K10.out)) (fun hHeld=>?_);refine wpAnyH_take (i:=0) (oi:=({ dst:=_,op:=_,type:=_,pos:=_,after:=_,guard:=_ }:Oper)) (v:=?_) rfl (by kernel_rfl) (by kernel_rfl) (by kernel_rfl) (fun _ _ _ h=>h) (Or.inl ⟨by rfl,?_⟩) (by assumption) ?_
   rotate_left
   focus (intro w hSw;(try dsimp only at hSw);go_simp;try with_reducible rfl)
   try simp only[Act.put,List.setIfInBounds_toArray,List.set_cons_zero,List.set_cons_succ]
   refine wpAnyH_take (i:=1) (oi:=({ dst:=_,op:=_,type:=_,pos:=_,after:=_,guard:=_ }:Oper)) (v:=?_) rfl (by kernel_rfl) (by kernel_rfl) (by kernel_rfl) (fun _ _ _ h=>h) (Or.inl ⟨by rfl,?_⟩) (by assumption) ?_
   rotate_left
   focus (intro w hSw;(try dsimp only at hSw);go_simp;try with_reducible rfl)
   try simp only[Act.put,List.setIfInBounds_toArray,List.set_cons_zero,List.set_cons_succ]
   refine wpAnyH_take (i:=2) (oi:=({ dst:=_,op:=_,type:=_,pos:=_,after:=_,guard:=_ }:Oper)) (v:=?_) rfl (by kernel_rfl) (by kernel_rfl) (by kernel_rfl) (fun _ _ _ h=>h) (Or.inl ⟨by rfl,?_⟩) (by assumption) ?_
   rotate_left
   focus (intro w hSw;(try dsimp only at hSw);go_simp;try with_reducible rfl)
   try simp only[Act.put,List.setIfInBounds_toArray,List.set_cons_zero,List.set_cons_succ]
   refine wpAnyH_take (i:=3) (oi:=({ dst:=_,op:=_,type:=_,pos:=_,after:=_,guard:=_ }:Oper)) (v:=?_) rfl (by kernel_rfl) (by kernel_rfl) (by kernel_rfl) (fun _ _ _ h=>h) (Or.inl ⟨by rfl,?_⟩) (by assumption) ?_
   rotate_left
   focus (intro w hSw;(try dsimp only at hSw);go_simp;try with_reducible rfl)
   try simp only[Act.put,List.setIfInBounds_toArray,List.set_cons_zero,List.set_cons_succ]
   refine wpAnyH_take (i:=5) (oi:=({ dst:=_,op:=_,type:=_,pos:=_,after:=_,guard:=_ }:Oper)) (v:=?_) rfl (by kernel_rfl) (by kernel_rfl) (by kernel_rfl) (fun _ _ _ h=>h) (Or.inl ⟨by rfl,?_⟩) (by assumption) ?_
   rotate_left
   focus (intro w hSw;(try dsimp only at hSw);go_simp;try with_reducible rfl)
   try simp only[Act.put,List.setIfInBounds_toArray,List.set_cons_zero,List.set_cons_succ]
   refine wpAnyH_take (i:=6) (oi:=({ dst:=_,op:=_,type:=_,pos:=_,after:=_,guard:=_ }:Oper)) (v:=?_) rfl (by kernel_rfl) (by kernel_rfl) (by kernel_rfl) (fun _ _ _ h=>h) (Or.inl ⟨by rfl,?_⟩) (by assumption) ?_
   rotate_left
   focus (intro w hSw;(try dsimp only at hSw);go_simp;try with_reducible rfl)
   try simp only[Act.put,List.setIfInBounds_toArray,List.set_cons_zero,List.set_cons_succ]
   refine wpAnyH_take (i:=7) (oi:=({ dst:=_,op:=_,type:=_,pos:=_,after:=_,guard:=_ }:Oper)) (v:=?_) rfl (by kernel_rfl) (by kernel_rfl) (by kernel_rfl) (fun _ _ _ h=>h) (Or.inl ⟨by rfl,?_⟩) (by assumption) ?_
   rotate_left
   focus (intro w hSw;(try dsimp only at hSw);go_simp;try with_reducible rfl)
   try simp only[Act.put,List.setIfInBounds_toArray,List.set_cons_zero,List.set_cons_succ]
   refine wpAnyH_take (i:=8) (oi:=({ dst:=_,op:=_,type:=_,pos:=_,after:=_,guard:=_ }:Oper)) (v:=?_) rfl (by kernel_rfl) (by kernel_rfl) (by kernel_rfl) (fun _ _ _ h=>h) (Or.inl ⟨by rfl,?_⟩) (by assumption) ?_
   rotate_left
   focus (intro w hSw;(try dsimp only at hSw);go_simp;try with_reducible rfl)
   try simp only[Act.put,List.setIfInBounds_toArray,List.set_cons_zero,List.set_cons_succ]
   repeat' first
    |(refine wpAnyH_done (by decide +kernel) ?_ _)
    |(refine wpAnyH_ready (rs:=[4,9]) (by decide +kernel) (by simp) ?_)
    |(refine wpAnyH_ready (rs:=[4]) (by decide +kernel) (by simp) ?_)
    |(refine wpAnyH_ready (rs:=[10]) (by decide +kernel) (by simp) ?_)
    |(refine wpAnyH_ready (rs:=[13]) (by decide +kernel) (by simp) ?_)
    |(refine wpAnyH_ready (rs:=[9]) (by decide +kernel) (by simp) ?_)
    |exact AllReadyH.nil
    |(refine AllReadyH.cons (o:=({ dst:=_,op:=_,type:=_,pos:=_,after:=_,guard:=_ }:Oper)) rfl (fun Kq hKq=>?_) ?_;(focus ((first|((refine zHc (by rfl) (.tmp 19) (.tmp 24) 124 (by rfl) 0 123 (.slice none 0 0) 1 24 underlying124 HI.out rfl (by decide) (by decide) _ on3 ys (by rfl) HOA.out ⟨w3.heap.size,0,none⟩ 1 _ [.slice la3 ln3 lc3] (by rfl) rfl HN.out (by intro u hu;simp at hu;rw[hu];rfl) (by omega) (Nat.zero_le _) ?_;intro v' w10 ho10 hg10 hv10;obtain⟨va',vg',vc',hv',q1,q2,q3,q4,q5⟩:=zAp ho10;subst hv';clear q1 q2 q3 q4 q5;obtain⟨dd1,ff1,dd0,ff0,kk1,kk2⟩:=HG.out _ _ _ GDA.out ho10 hg10 hv10;have K10:=hid dd0;have FF0:=hid ff0;have KK1:=hid kk1;have KK2:=hid kk2;clear ho10 hg10 hv10 kk1 kk2 dd0 ff0))|go_simp);(refine hKq.out _ _ (by first|(dsimp only;(first|exact KS.out _ GD.out|exact KS.out _ GDA.out|exact K10.out|exact(World.cell?_setCell_other (w:=w10) _ _ _ (by simp)).trans K10.out))|(first|exact KS.out _ GD.out|exact KS.out _ GDA.out|exact K10.out|exact(World.cell?_setCell_other (w:=w10) _ _ _ (by simp)).trans K10.out)) (fun hHeld=>?_));(clear hKq Kq);(try simp only[Act.put,List.setIfInBounds_toArray,List.set_cons_zero,List.set_cons_succ]))))
    |(refine wpAnyH_take (i:=11) (oi:=({ dst:=_,op:=_,type:=_,pos:=_,after:=_,guard:=_ }:Oper)) (v:=?_) rfl (by kernel_rfl) (by kernel_rfl) (by decide +kernel) (fun _ _ _ h=>h) (Or.inl ⟨by rfl,?_⟩) (by assumption) ?_;rotate_left;focus (intro w hSw;(try dsimp only at hSw);go_simp;try with_reducible rfl);try simp only[Act.put,List.setIfInBounds_toArray,List.set_cons_zero,List.set_cons_succ])
    |(refine wpAnyH_take (i:=12) (oi:=({ dst:=_,op:=_,type:=_,pos:=_,after:=_,guard:=_ }:Oper)) (v:=?_) rfl (by kernel_rfl) (by kernel_rfl) (by decide +kernel) (fun _ _ _ h=>h) (Or.inl ⟨by rfl,?_⟩) (by assumption) ?_;rotate_left;focus (intro w hSw;(try dsimp only at hSw);go_simp;try with_reducible rfl);try simp only[Act.put,List.setIfInBounds_toArray,List.set_cons_zero,List.set_cons_succ])
   all_goals
    have ff0:=FF0.out;have dd0:=K10.out
    show Exit.then _ _ _ _ _
    go_wp2
    go_ret
    exact⟨KK1.out,KK2.out,rfl⟩
  ·exfalso
   unfold zAv zBb at e1;rw[if_pos (by simp[he])]at e1;exact absurd (congrArg Prod.snd e1) (by simp)
structure RowI (A:Nat->Addr) (W0 w:World) (F F':Nat->Prop) (b:Nat) (s':De.Rd) (e:TypeId) (sz n:Nat) (xs:List Value) (r:Value) (wr:World):Prop where
 upto:Upto F w wr
 rd:PrR A W0 F' b s' wr
 sub:∀ k,F' k->Ext F w wr k
 row:wr.ownsRow w.heap.size e sz r n xs
 free:∀ k,r.ownBlock=some k->¬ F' k
section
variable {A:Nat->Addr} {W0 w w2 w3 wr:World} {F F':Nat->Prop} {b:Nat} {s s' s2:De.Rd} {e:TypeId} {sz n m:Nat} {xs ys:List Value} {r r2:Value}
theorem RowI.still (h:RowI A W0 w F F' b s' e sz n xs r wr) (hg:wr.grownBy w2 none):RowI A W0 w F F' b s' e sz n xs r w2 :=
 ⟨h.upto.trans (Upto.of_grown F hg) (fun _ _ h=>h),h.rd.still hg,fun k hk=>by
  have:=hg.size;rcases h.sub k hk with h1|h1
  ·exact .inl h1
  ·exact .inr ⟨h1.1,by omega⟩,zAM h.row (Upto.of_grown (fun _=>False) hg) (fun _ _ h=>h),h.free⟩
theorem RowI.call (hw:∀ k,F k->k<w.heap.size) (h:RowI A W0 w F F' b s' e sz n xs r wr) (hu:Upto F' wr w2) (hr:PrR A W0 (Ext F' wr w2) b s2 w2):RowI A W0 w F (Ext F' wr w2) b s2 e sz n xs r w2:=by
 have h1:=h.upto.size;have h2:=hu.size;refine⟨h.upto.trans hu (fun k hk hf=>?_),hr,fun k hk=>?_,zAM h.row hu h.free,fun k hk hf=>?_⟩
 ·rcases h.sub k hf with hf|hf
  ·exact hf
  ·omega
 ·rcases hk with hk|hk
  ·rcases h.sub k hk with h3|h3
   ·exact .inl h3
   ·exact .inr ⟨h3.1,by omega⟩
  ·exact .inr ⟨by omega,hk.2⟩
 ·rcases hf with hf|hf
  ·exact h.free k hk hf
  ·have:=(h.row.lt k hk).2;omega
theorem RowI.more (hb:W0.grownBy w none) (h:RowI A W0 w F F' b s' e sz n xs r wr) (h5:wr.grownBy w2 none) (ho:w3.ownsRow w.heap.size e sz r2 m ys) (hg:w2.grownBy w3 r.ownBlock) (hbk:r2.ownBlock=r.ownBlock∨r2.ownBlock=some w2.heap.size):RowI A W0 w F F' b s' e sz m ys r2 w3:=by
 have h2:=h.still h5;have hub:Upto (fun k=>r.ownBlock=some k) w2 w3:=Upto.of_row hg (fun k hk=>.inl hk);have hlow:∀ k,r.ownBlock=some k->w.heap.size<=k:=fun k hk=>(h2.row.lt k hk).1
 have hs:=hb.size;refine⟨h2.upto.trans hub (fun k hk hf=>?_),h2.rd.other (G:=fun k=>r.ownBlock=some k) (G':=fun k=>r.ownBlock=some k) (fun k hk=>by have:=hlow k hk;omega) ⟨hub,fun _ _ h=>h⟩ (fun k hk hf=>h2.free k hk hf),fun k hk=>?_,ho,fun k hk hf=>?_⟩
 ·have:=hlow k hf;omega
 ·have:=hub.size;rcases h2.sub k hk with h3|h3
  ·exact .inl h3
  ·exact .inr ⟨h3.1,by omega⟩
 ·rcases hbk with hbk|hbk
  ·exact h2.free k (by rw[<-hbk,hk]) hf
  ·rw[hk]at hbk;have e:=Option.some.inj hbk;have:=(h2.rd.own k hf).2;omega
theorem RowI.done (hw:∀ k,F k->W0.heap.size<=k/\k<w.heap.size) (hb:W0.grownBy w none) (h:RowI A W0 w F F' b s' e sz n xs r wr):Upto F w wr/\PrR A W0 (Ext F w wr) b s' wr:=⟨h.upto,h.rd.wide h.sub (zAo hb hw h.upto.size)⟩
end
def numR (least most:Int) (l:List Nat):Except Nat (World->Value->Prop):=if(zBX l least most).2=0 then .ok (fun _ v=>v=.int .i64 (zBX l least most).1)else .error (zBX l least most).2
section
variable {A:Nat->Addr} {W0 w w2:World} {F:Nat->Prop} {b:Nat} {s:De.Rd}
theorem PrR.afterO {w':World} {Z:Value} {p:De.Rd×Option (World->Value->Prop)} {e:Ending} (h:PrR A W0 F b s w) (hg:w.grownBy w2 none) (hp:zBt A W0 (Ext F w w2) b w2 w' Z p e):zBt A W0 F b w w' Z p e:=by
 obtain⟨h1,h2,h3⟩:=hp;have:=h.join2 ⟨Upto.of_grown F hg,h.grow hg⟩ ⟨h1,h2⟩;exact⟨this.1,this.2,h3⟩
theorem zB7 {w':World} {Z:Value} {p:De.Rd×Option (World->Value->Prop)} {e:Ending} (h:zBt A W0 F b w w' Z p e):∃ v,e=.returned v/\zBt A W0 F b w w' Z p (.returned v):=by
 obtain⟨k1,k2,k3⟩:=h;obtain⟨p1,p2⟩:=p;cases p2 with
 |none=>exact⟨_,k3,k1,k2,rfl⟩
 |some V =>
  obtain⟨v,k4,k5⟩:=k3;exact⟨v,k4,k1,k2,v,rfl,k5⟩
end
theorem zHI (A:Nat->Addr) (l:List Nat) (a:Option Addr) (c x1 x2:Nat) (least most:Int) (w:World) (h1:w.cell? ⟨x1,0,none⟩=some (.int .i64 least)) (h2:w.cell? ⟨x2,0,none⟩=some (.int .i64 most)) (hB:Bytes w (.slice a l.length c) l) (hE:AllErrs w A) :
  Calls prog 126 #[.slice a l.length c,.pointer (some ⟨x1,0,none⟩),.pointer (some ⟨x2,0,none⟩)] w fun e w'=>zCl A w w' (numR least most l) e:=by
 have HR:=hid (zIJ A (.slice a l.length c) l least most w hB hE);unfold numR;obtain⟨n,k,hnk⟩:∃ n k,zBX l least most=(n,k):=⟨_,_,rfl⟩
 rw[hnk]at HR ⊢;simp only at HR ⊢;obtain⟨m,hm⟩:∃ m,m=l.length:=⟨_,rfl⟩
 by_cases hk:k=0
 ·rw[if_pos hk];rw[zAu,if_pos hk]at HR;clear hB hE hnk hk;go_enter func126,ntmps126
  go_wp2_with (go_at_call 127;refine HR.out.mono ?_;rintro e w2 ⟨rfl,hg2⟩;have HG2:=hid hg2;clear hg2)
  go_returns
  exact⟨HG2.out,_,rfl,rfl⟩
 ·rw[if_neg hk];rw[zAu,if_neg hk]at HR;clear hB hE hnk hk;go_enter func126,ntmps126
  go_wp2_with (go_at_call 127;refine HR.out.mono ?_;rintro e w2 ⟨rfl,hg2⟩;have HG2:=hid hg2;clear hg2)
  go_returns
  exact⟨HG2.out,_,rfl⟩
theorem zES {A:Nat->Addr} {W0 w:World} {F:Nat->Prop} {b:Nat} {s:De.Rd} (h:PrR A W0 F b s w) (hE:AllErrs W0 A) (tag least most:Int) :
  Calls prog 83 #[.pointer (some ⟨b,0,none⟩),.int .i64 tag,.int .i64 least,.int .i64 most] w fun e w'=>zBt A W0 F b w w' (.int .i64 0) (zAv s tag (numR least most)) e:=by
 obtain⟨W1,hW1⟩:∃ W1,W1=(w.alloc (.cells #[.int .i64 least] 3)).alloc (.cells #[.int .i64 most] 3):=⟨_,rfl⟩
 have hga:w.grownBy W1 none:=by rw[hW1];exact zAc (zAc (zAa _ _) _) _
 have cx1:W1.cell? ⟨w.heap.size,0,none⟩=some (.int .i64 least):=by rw[hW1];exact cell_blk (zAt (alloc_at _ _)) 0 rfl
 have cx2:W1.cell? ⟨w.heap.size+1,0,none⟩=some (.int .i64 most):=by
  rw[hW1];have:=alloc_at (w.alloc (.cells #[.int .i64 least] 3)) (.cells #[.int .i64 most] 3);rw[zAe]at this;exact cell_blk this 0 rfl
 have hmf:=mkFn;have HR:=hid ((zHx (h.grow hga) hE tag 126 #[.pointer (some ⟨w.heap.size,0,none⟩),.pointer (some ⟨w.heap.size+1,0,none⟩)] (numR least most)
  (fun l k hk=>by
   unfold numR at hk;split at hk
   ·exact absurd hk (by simp)
   ·rename_i hne
    obtain rfl:=Except.error.inj hk;exact hne)
  (fun l V hV w2 v x hg hv=>by
   unfold numR at hV;split at hV
   ·obtain rfl:=Except.ok.inj hV;exact hv
   ·exact absurd hV (by simp))
  (zAW func126 rfl rfl)
  (fun l a c h8 hl _ hB h0=>zHI A l a c _ _ least most W1 cx1 cx2 hB (hE.grown (zAV h.base hga)))).mono (fun e w' hp=>h.afterO hga hp))
 have HW1:Hid ((w.alloc (.cells #[.int .i64 least] 3)).alloc (.cells #[.int .i64 most] 3)=W1):=hid hW1.symm;generalize zAv s tag (numR least most)=p at *;clear h hE hW1 hga cx1 cx2;go_enter func83,ntmps83
 go_wp2_with (go_at_call 125;rw[HW1.out];refine HR.out.mono ?_;rintro e w3 hp3;obtain⟨v,hv,hq⟩:=zB7 hp3;subst hv;have HQ:=hid hq;clear hp3 hq)
 go_ret
 exact HQ.out
theorem zIt {A:Nat->Addr} {W0 w:World} {F:Nat->Prop} {b:Nat} {s:De.Rd} (h:PrR A W0 F b s w) (hE:AllErrs W0 A) (least most:Int) :
  Calls prog 37 #[.pointer (some ⟨b,0,none⟩),.int .i64 least,.int .i64 most] w fun e w'=>∃ v,e=.returned v/\zBt A W0 F b w w' (.int .i64 0) (zAv s 2 (numR least most)) e:=by
 have HN:=hid (zES h hE 2 least most);generalize zAv s 2 (numR least most)=p at *;clear h hE;go_enter func37,ntmps37
 go_wp2_with (go_at_call 83;refine HN.out.mono ?_;rintro e w3 hp3;obtain⟨v,hv,hq⟩:=zB7 hp3;subst hv;have HQ:=hid hq;clear hp3 hq)
 go_ret
 exact⟨_,rfl,HQ.out⟩
theorem Prts.nil (w:World):Prts w (.slice none 0 0) []:=⟨none,0,0,0,rfl,fun h=>absurd h (Nat.lt_irrefl _),fun j hj=>absurd hj (Nat.not_lt_zero _)⟩
theorem zHw {A:Nat->Addr} {W0 w:World} {F:Nat->Prop} {b:Nat} {s:De.Rd} (h:PrR A W0 F b s w) (hE:AllErrs W0 A) (tag:Int) (most:Nat) (f:Nat) (caps:Array Value) (G:De.Rd->De.Rd×Na.Pr) (J:Nat->De.Rd->Prop)
  (hen:∀ args w,(callFunc f args).run prog w=.ok (.enter f args) w)
  (h0:J 0 (De.enter s tag).1) (hJ:∀ j s',J j s'->De.more s'=true->j<most->J (j+1) (G s').1) (hN:∀ j s',J j s'->j<=100000)
  (hcall:∀ j F' s' W,J j s'->De.more s'=true->PrR A W0 F' b s' W->Calls prog f (#[.pointer (some ⟨b,0,none⟩)]++caps) W fun e w'=>e=.returned (.agg #[.string (G s').2.1,.string (G s').2.2])/\Upto F' W w'/\PrR A W0 (Ext F' W w') b (G s').1 w') :
  Calls prog 78 #[.pointer (some ⟨b,0,none⟩),.int .i64 tag,.int .i64 most,.func (.func f) #[] caps] w fun e w'=>∃ a c,e=.returned (.slice a (zA0 G s tag most).2.length c)/\Upto F w w'/\PrR A W0 (Ext F w w') b (zA0 G s tag most).1 w'/\Sup (fun k=>w.heap.size<=k/\k<w'.heap.size) w' (fun W=>Prts W (.slice a (zA0 G s tag most).2.length c) (zA0 G s tag most).2):=by
 have HX:=hid h;have hfn:∀ W,(binOp .neq 136 (.func (.func f) #[] caps) .nilFunc).run prog W=.ok (.bool true) W:=fun W=>rfl
 have HW:=hid h.own;have HE:=hid hE;have HJ:=hid hJ;have HN:=hid hN;have HCl:=hid hcall;have HEn:=hid (zCd h hE tag);have HErr:Hid (∀ W,W0.grownBy W none->W.cell? ⟨4,0,none⟩=some (errV A 3)):=hid (fun W hW=>by
  have e5:=zAs (hE.grown hW) 3 (by decide);simp only[errVars,List.getD_cons_zero,List.getD_cons_succ,Nat.add_one_sub_one]at e5;exact e5)
 have hbse:=h.base;have HBs:=hid hbse;cases hq:(De.enter s tag).2 with
 |false =>
  have hre:=zHl (G:=G) (most:=most) hq;have HRe:=hid hre;rw[hq]at HEn;obtain⟨s1,hs1⟩:∃ s1,s1=(De.enter s tag).1:=⟨_,rfl⟩
  rw[<-hs1]at HEn HRe;clear h hE hJ hN hcall h0 hq hre hs1 hbse;go_enter func78,ntmps78
  go_wp2_with (go_at_call 34;refine HEn.out.mono ?_;rintro e w2 ⟨hu2,hp2,rfl⟩;have U2:=hid hu2;have P2:=hid hp2;clear hu2 hp2)
  go_ret
  rw[HRe.out];exact⟨none,0,rfl,U2.out,P2.out,fun k hk=>hk.2,fun W _=>Prts.nil W⟩
 |true =>
  rw[hq]at HEn;have H0:=hid h0;obtain⟨s1,hs1⟩:∃ s1,s1=(De.enter s tag).1:=⟨_,rfl⟩
  have HS1:=hid hs1;rw[<-hs1]at HEn H0;clear h hE hJ hN hcall h0 hq hs1 hbse;go_enter func78,ntmps78
  go_wp2_with (go_at_call 34;refine HEn.out.mono ?_;rintro e w2 ⟨hu2,hp2,rfl⟩;have R2:Hid (∃ F',RowI A W0 w F F' b s1 88 2 0 (cellsP []) (.slice none 0 0) w2):=hid ⟨_,hu2,hp2,fun k hk=>hk,⟨rfl,.inl ⟨rfl,rfl⟩⟩,by simp[Value.ownBlock]⟩;clear hu2 hp2)
  go_loopw [9] (fun r wr=>∃ (l:List Na.Pr) (s':De.Rd) (F':Nat->Prop),RowI A W0 w F F' b s' 88 2 l.length (cellsP l) r wr/\J l.length s'/\l.length<=most/\rowG G (most-l.length) s' l=rowG G most s1 []) (fun r _=>200000-lenV r)
  case atStart =>
   obtain⟨F',hF'⟩:=R2.out;exact⟨[],s1,F',hF',H0.out,Nat.zero_le _,rfl⟩
  case round =>
   obtain⟨l,s',F',hR,hJl,hlm,hrow⟩:=hrel;have R:=hid hR;have HJl:=hid hJl;have HRw:=hid hrow;have hl1:=HN.out _ _ hJl;have HMo:=hid (zHz hR.rd);obtain⟨ra,rg,rc,rfl,hrc,-,-,-,hrop⟩:=zAp hR.row;by_cases hm:De.more s'=true
   ·rw[hm]at HMo;by_cases hlt:l.length<most
    ·have HC:=hid (HCl.out _ F' s' wr hJl hm hR.rd);obtain⟨s2,hs2⟩:∃ s2,s2=(G s').1:=⟨_,rfl⟩
     obtain⟨v2,hv2⟩:∃ v2,v2=(G s').2:=⟨_,rfl⟩
     rw[<-hs2,<-hv2]at HC;have HNx:Hid (J (l.length+1) s2/\rowG G (most-(l.length+1)) s2 (l++[v2])=rowG G most s1 []):=hid ⟨by rw[hs2];exact HJ.out _ _ hJl hm hlt,by
      rw[hs2,hv2,<-hrow,show most-l.length=(most-(l.length+1))+1 by omega,zET hm]⟩
     obtain⟨n,hn⟩:∃ n,n=l.length:=⟨_,rfl⟩
     have hgeq:¬(most:Int)<=(n:Int):=by omega
     have HNn:=hid hn;rw[<-hn]at hl1 R ⊢;have hl2:=hid hl1;have hlt2:=hid hlt;clear hR hJl hlm hrow hm hs2 hv2 hrop hlt hn hl1;go_wp2_with (first
      |(go_at_call 120;(with_reducible refine HMo.out.mono ?_);rintro e w4 ⟨rfl,rfl⟩)
      |((with_reducible refine HC.out.mono ?_);rintro e w5 ⟨rfl,hu5,hp5⟩;have R5:=hid (R.out.call (fun k hk=>(HW.out k hk).2) hu5 hp5);clear hu5 hp5)
      |(obtain⟨w6,hw6⟩:∃ w6,w6=w5.alloc (.cells #[.string v2.1,.string v2.2] 88):=⟨_,rfl⟩;rw[<-hw6];have g6:Hid (w5.grownBy w6 none):=hid (by rw[hw6];exact World.grownBy_alloc _ _ _);have b6:w6.heap[w5.heap.size]?=some (.cells #[.string v2.1,.string v2.2] 88 (0,0)):=(by rw[hw6];exact alloc_at _ _);refine zAH (by rfl) (.tmp 27) (.tmp 31) 26 (by rfl) w.heap.size 88 (.agg #[.string ⟨#[]⟩,.string ⟨#[]⟩]) 2 32 underlying26 (by kernel_rfl) rfl (by decide) (by decide) _ n (cellsP l) (by rfl) (R5.out.still g6.out).row ⟨w5.heap.size,0,none⟩ 1 1 [.string v2.1,.string v2.2] (by rfl) (by rfl) (fun q u hu=>by rw[addr_addO,Nat.zero_add];exact cell_blk b6 q (by simpa using hu)) (by intro u hu;simp at hu;rcases hu with rfl|rfl <;> rfl) (by have:=hl2.out;omega) (R5.out.still g6.out).upto.size ?_;intro v7 w7 ho7 hg7 hb7;have R7:=hid (R5.out.more HBs.out g6.out ho7 hg7 hb7);clear hw6 b6 ho7 hg7 hb7))
     have hr7:=R7.out.row;obtain⟨ra7,rg7,rc7,rfl,hrc7,-⟩:=zAp hr7;clear hr7;go_roundw
     case rel =>
      obtain⟨FF,r7⟩:∃ FF,RowI A W0 w F FF b s2 88 2 (n+1) (cellsP l++[.string v2.1,.string v2.2]) (.slice ra7 (n+1) rc7) w7:=⟨_,R7.out⟩
      refine⟨l++[v2],s2,FF,?_,?_,?_,?_⟩
      ·rw[List.length_append,List.length_singleton,<-HNn.out,zCB];exact r7
      ·rw[List.length_append,List.length_singleton];exact HNx.out.1
      ·rw[List.length_append,List.length_singleton];exact hlt2.out
      ·rw[List.length_append,List.length_singleton];exact HNx.out.2
     case measure =>
      have:=hl2.out;simp only[lenV];omega
    ·have hlm2:l.length=most:=by omega
     have HF:=hid (zAF hR.rd 3 (by decide));have he0:=zLJ hm;rw[if_pos he0]at HF;have hcl:=HErr.out wr hR.rd.base;have hgeq:(most:Int)<=(l.length:Int):=by omega
     have HRe:=hid (zFO (s:=s) (tag:=tag) (most:=most) (l:=l) hm (by rw[<-HS1.out,<-hrow,hlm2,Nat.sub_self]));obtain⟨n,hn⟩:∃ n,n=l.length:=⟨_,rfl⟩
     rw[<-hn]at hgeq ⊢;clear hR hJl hlm hrow hm hlt hrop hlm2 he0;go_wp2_with (first
      |(go_at_call 120;(with_reducible refine HMo.out.mono ?_);rintro e w4 ⟨rfl,rfl⟩)
      |(go_at_call 82;(with_reducible refine HF.out.mono ?_);rintro e w5 ⟨rfl,hu5,hp5⟩;have R5:=hid (R.out.call (fun k hk=>(HW.out k hk).2) hu5 hp5);clear hu5 hp5))
     go_ret
     rw[HRe.out];obtain⟨q1,q2⟩:=R5.out.done HW.out HBs.out;exact⟨none,0,rfl,q1,q2,fun k hk=>hk.2,fun W _=>Prts.nil W⟩
   ·have hmf:De.more s'=false:=by cases hmm:De.more s' with
     |false=>rfl
     |true=>exact absurd hmm hm
    rw[hmf]at HMo;have HLv:=hid (zCc hR.rd HE.out);have HRe:=hid (zFN (s:=s) (tag:=tag) (most:=most) (l:=l) hm (by rw[<-HS1.out];exact hrow));obtain⟨s2,hs2⟩:∃ s2,s2=De.leave s':=⟨_,rfl⟩
    rw[<-hs2]at HLv HRe;have HEr:Hid (∀ F' W,PrR A W0 F' b s2 W->Calls prog 39 #[.pointer (some ⟨b,0,none⟩)] W fun e w'=>e=.returned (zAu A s2.e)/\w'=W):=hid (fun F' W h=>zCM h);obtain⟨n,hn⟩:∃ n,n=l.length:=⟨_,rfl⟩
    have HNn:=hid hn;rw[<-hn]at R ⊢;clear hR hJl hlm hrow hm hrop hmf hs2 hn;by_cases he:s2.e=0
    ·rw[zAu,if_pos he]at HEr;have HHe:=hid he;clear he;go_wp2_with (first
      |(go_at_call 120;(with_reducible refine HMo.out.mono ?_);rintro e w4 ⟨rfl,rfl⟩)
      |(go_at_call 40;(with_reducible refine HLv.out.mono ?_);rintro e w5 ⟨rfl,hu5,hp5⟩;have P5:=hid hp5;have R5:=hid (R.out.call (fun k hk=>(HW.out k hk).2) hu5 hp5);clear hu5 hp5)
      |(go_at_call 39;(with_reducible refine(HEr.out _ _ P5.out).mono ?_);rintro e w6 ⟨rfl,rfl⟩))
     go_ret
     rw[HRe.out,if_neg (by rw[HHe.out];decide)];obtain⟨q1,q2⟩:=R5.out.done HW.out HBs.out;refine⟨ra,rc,by show Ending.returned (.slice ra n rc)=.returned (.slice ra l.length rc);rw[<-HNn.out],q1,q2,?_⟩;have hrw:=R5.out.row
     show Sup _ _ (fun W=>Prts W (.slice ra l.length rc) l)
     rw[<-HNn.out];exact(zCg hrw (F:=fun k=>w.heap.size<=k/\k<w6.heap.size) (fun k hk=>hk.2) (fun k hk=>hrw.lt k hk)).map (fun W hW=>Prts.own hW HNn.out)
    ·rw[zAu,if_neg he]at HEr;have HHe:=hid he;clear he;go_wp2_with (first
      |(go_at_call 120;(with_reducible refine HMo.out.mono ?_);rintro e w4 ⟨rfl,rfl⟩)
      |(go_at_call 40;(with_reducible refine HLv.out.mono ?_);rintro e w5 ⟨rfl,hu5,hp5⟩;have P5:=hid hp5;have R5:=hid (R.out.call (fun k hk=>(HW.out k hk).2) hu5 hp5);clear hu5 hp5)
      |(go_at_call 39;(with_reducible refine(HEr.out _ _ P5.out).mono ?_);rintro e w6 ⟨rfl,rfl⟩))
     go_ret
     rw[HRe.out,if_pos HHe.out];obtain⟨q1,q2⟩:=R5.out.done HW.out HBs.out;exact⟨none,0,rfl,q1,q2,fun k hk=>hk.2,fun W _=>Prts.nil W⟩
end Go.Proofs.YtijkaknggdaajaaGreatDoor
