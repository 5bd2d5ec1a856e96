import Derived.Lib.Hide
import Derived.Lib.DecodeN
import Derived.Lib.TrimUEq
import Derived.Lib.ValidLaws
import Derived.RangeFuncNested
import Derived.RangeFuncLeaves
set_option linter.unusedVariables false
set_option linter.unusedSimpArgs false
namespace Go.Proofs.YtijkaknggdaajaaGreatDoor
namespace Pt
def step (l:List Nat):Option Nat :=
 if Lib.decodeN l.length (l.getD 0 0) (l.getD 1 0) (l.getD 2 0) (l.getD 3 0)=(65533,1) then none
 else if (Lib.decodeN l.length (l.getD 0 0) (l.getD 1 0) (l.getD 2 0) (l.getD 3 0)).1<32∨(Lib.decodeN l.length (l.getD 0 0) (l.getD 1 0) (l.getD 2 0) (l.getD 3 0)).1=127 then none
 else some (Lib.decodeN l.length (l.getD 0 0) (l.getD 1 0) (l.getD 2 0) (l.getD 3 0)).2
def plainF:Nat→List Nat→Bool
 |0,_=>true
 |f+1,l=>if l=[] then true else match step l with
  |none=>false
  |some k=>plainF f (l.drop k)
def plain (l:List Nat):Bool:=plainF l.length l
theorem step1 (l:List Nat) (h:l.getD 0 0<128):step l=if l.getD 0 0<32∨l.getD 0 0=127 then none else some 1:=by
 have e:∀ n b1 b2 b3,Lib.decodeN n (l.getD 0 0) b1 b2 b3=(l.getD 0 0,1):=fun n b1 b2 b3=>by rw[Lib.decodeN,if_pos h]
 rw[step,e,if_neg (by intro h2;have:=(Prod.mk.inj h2).1;omega)]
theorem dec2 (n b0 b1 b2 b3:Nat) (h1:192≤b0) (h2:b0<224):Lib.decodeN n b0 b1 b2 b3=if 1<n∧(128≤b1∧b1≤191)∧128≤(b0-192)*64+(b1-128) then ((b0-192)*64+(b1-128),2) else (65533,1):=by
 rw[Lib.decodeN,if_neg (by omega)]
 by_cases hc:1<n∧b1/64=2
 ·rw[if_pos (⟨by omega,hc⟩:b0/32=6∧_)]
  by_cases hv:b0%32*64+b1%64 ≥ 128
  ·rw[if_pos hv,if_pos (by omega),Prod.mk.injEq];omega
  ·rw[if_neg hv,if_neg (by omega)]
 ·rw[if_neg (by omega),if_neg (by omega),if_neg (by omega),if_neg (by omega)]
theorem dec3 (n b0 b1 b2 b3:Nat) (h1:224≤b0) (h2:b0<240):Lib.decodeN n b0 b1 b2 b3=if 2<n∧(128≤b1∧b1≤191)∧(128≤b2∧b2≤191)∧2048≤((b0-224)*64+(b1-128))*64+(b2-128)∧¬ (55296≤((b0-224)*64+(b1-128))*64+(b2-128)∧((b0-224)*64+(b1-128))*64+(b2-128)<57344) then (((b0-224)*64+(b1-128))*64+(b2-128),3) else (65533,1):=by
 rw[Lib.decodeN,if_neg (by omega),if_neg (by omega)]
 by_cases hc:(1<n∧b1/64=2)∧(2<n∧b2/64=2)
 ·rw[if_pos (⟨by omega,hc⟩:b0/16=14∧_)]
  by_cases hv:b0%16*4096+b1%64*64+b2%64 ≥ 2048∧(b0%16*4096+b1%64*64+b2%64<55296∨(57344≤b0%16*4096+b1%64*64+b2%64∧b0%16*4096+b1%64*64+b2%64≤1114111))
  ·rw[if_pos hv,if_pos (by omega),Prod.mk.injEq];omega
  ·rw[if_neg hv,if_neg (by omega)]
 ·rw[if_neg (by omega),if_neg (by omega),if_neg (by omega)]
theorem dec4 (n b0 b1 b2 b3:Nat) (h1:240≤b0) (h2:b0<248):Lib.decodeN n b0 b1 b2 b3=if 3<n∧(128≤b1∧b1≤191)∧(128≤b2∧b2≤191)∧(128≤b3∧b3≤191)∧65536≤(((b0-240)*64+(b1-128))*64+(b2-128))*64+(b3-128)∧(((b0-240)*64+(b1-128))*64+(b2-128))*64+(b3-128)≤1114111 then ((((b0-240)*64+(b1-128))*64+(b2-128))*64+(b3-128),4) else (65533,1):=by
 rw[Lib.decodeN,if_neg (by omega),if_neg (by omega),if_neg (by omega)]
 by_cases hc:(1<n∧b1/64=2)∧(2<n∧b2/64=2)∧(3<n∧b3/64=2)
 ·rw[if_pos (⟨by omega,hc⟩:b0/8=30∧_)]
  by_cases hv:b0%8*262144+b1%64*4096+b2%64*64+b3%64 ≥ 65536∧(b0%8*262144+b1%64*4096+b2%64*64+b3%64<55296∨(57344≤b0%8*262144+b1%64*4096+b2%64*64+b3%64∧b0%8*262144+b1%64*4096+b2%64*64+b3%64≤1114111))
  ·rw[if_pos hv,if_pos (by omega),Prod.mk.injEq];omega
  ·rw[if_neg hv,if_neg (by omega)]
 ·rw[if_neg (by omega),if_neg (by omega)]
theorem step_ok {l:List Nat} {v k:Nat} {c:Prop} [Decidable c] (h:Lib.decodeN l.length (l.getD 0 0) (l.getD 1 0) (l.getD 2 0) (l.getD 3 0)=if c then (v,k) else (65533,1)) (hk:k≠1) (hv:c→128≤v):step l=if c then some k else none:=by
 rw[step,h]
 by_cases hc:c
 ·rw[if_pos hc,if_pos hc,if_neg (by intro e;exact hk (Prod.mk.inj e).2),if_neg (by have:=hv hc;simp only;omega)]
 ·rw[if_neg hc,if_neg hc,if_pos rfl]
theorem step2 (l:List Nat) (h1:192≤l.getD 0 0) (h2:l.getD 0 0<224) :
  step l=if 1<l.length∧(128≤l.getD 1 0∧l.getD 1 0≤191)∧128≤(l.getD 0 0-192)*64+(l.getD 1 0-128) then some 2 else none :=
 step_ok (dec2 _ _ _ _ _ h1 h2) (by decide) (fun h=>h.2.2)
theorem step3 (l:List Nat) (h1:224≤l.getD 0 0) (h2:l.getD 0 0<240) :
  step l=if 2<l.length∧(128≤l.getD 1 0∧l.getD 1 0≤191)∧(128≤l.getD 2 0∧l.getD 2 0≤191)∧2048≤((l.getD 0 0-224)*64+(l.getD 1 0-128))*64+(l.getD 2 0-128) ∧
   ¬ (55296≤((l.getD 0 0-224)*64+(l.getD 1 0-128))*64+(l.getD 2 0-128)∧((l.getD 0 0-224)*64+(l.getD 1 0-128))*64+(l.getD 2 0-128)<57344) then some 3 else none :=
 step_ok (dec3 _ _ _ _ _ h1 h2) (by decide) (fun h=>by omega)
theorem step4 (l:List Nat) (h1:240≤l.getD 0 0) (h2:l.getD 0 0<248) :
  step l=if 3<l.length∧(128≤l.getD 1 0∧l.getD 1 0≤191)∧(128≤l.getD 2 0∧l.getD 2 0≤191)∧(128≤l.getD 3 0∧l.getD 3 0≤191)∧65536≤(((l.getD 0 0-240)*64+(l.getD 1 0-128))*64+(l.getD 2 0-128))*64+(l.getD 3 0-128) ∧
   (((l.getD 0 0-240)*64+(l.getD 1 0-128))*64+(l.getD 2 0-128))*64+(l.getD 3 0-128)≤1114111 then some 4 else none :=
 step_ok (dec4 _ _ _ _ _ h1 h2) (by decide) (fun h=>by omega)
theorem stepX (l:List Nat) (h:(128≤l.getD 0 0∧l.getD 0 0<192)∨248≤l.getD 0 0) (h2:l.getD 0 0<256):step l=none:=by
 generalize hb0:l.getD 0 0=b0 at *
 have e:Lib.decodeN l.length b0 (l.getD 1 0) (l.getD 2 0) (l.getD 3 0)=(65533,1):=by
  rw[Lib.decodeN,if_neg (by omega),if_neg (by omega),if_neg (by omega),if_neg (by omega)]
 rw[step,hb0,e,if_pos rfl]
theorem step_le {l:List Nat} {k:Nat} (hl:l≠[]) (h8:l.getD 0 0<256) (h:step l=some k):1≤k∧k≤l.length:=by
 have hp:0<l.length:=by cases l with|nil=>exact absurd rfl hl|cons x r=>simp
 rcases Nat.lt_or_ge (l.getD 0 0) 128 with c|c
 ·rw[step1 l c] at h;split at h <;> cases h;omega
 ·rcases Nat.lt_or_ge (l.getD 0 0) 192 with c2|c2
  ·rw[stepX l (.inl ⟨c,c2⟩) h8] at h;cases h
  ·rcases Nat.lt_or_ge (l.getD 0 0) 224 with c3|c3
   ·rw[step2 l c2 c3] at h;split at h <;> cases h;omega
   ·rcases Nat.lt_or_ge (l.getD 0 0) 240 with c4|c4
    ·rw[step3 l c3 c4] at h;split at h <;> cases h;omega
    ·rcases Nat.lt_or_ge (l.getD 0 0) 248 with c5|c5
     ·rw[step4 l c4 c5] at h;split at h <;> cases h;omega
     ·rw[stepX l (.inr c5) h8] at h;cases h
theorem plainF_nil (f:Nat):plainF f []=true:=by cases f <;> simp[plainF]
theorem plainF_fuel:∀ (f g:Nat) (l:List Nat),(∀ x∈l,x<256)→l.length≤f→l.length≤g→plainF f l=plainF g l
 |0,g,l,_,hf,_=>by
  obtain rfl:=List.eq_nil_of_length_eq_zero (Nat.le_zero.1 hf)
  rw[plainF_nil,plainF_nil]
 |f+1,0,l,_,_,hg=>by
  obtain rfl:=List.eq_nil_of_length_eq_zero (Nat.le_zero.1 hg)
  rw[plainF_nil,plainF_nil]
 |f+1,g+1,l,h8,hf,hg=>by
  rw[plainF,plainF]
  by_cases hl:l=[]
  ·rw[if_pos hl,if_pos hl]
  ·rw[if_neg hl,if_neg hl]
   cases hs:step l with
   |none=>rfl
   |some k =>
    have hk:=step_le hl (by
     have hp:0<l.length:=by cases l with|nil=>exact absurd rfl hl|cons x r=>simp
     rw[List.getD_eq_getElem?_getD,List.getElem?_eq_getElem hp]
     exact h8 _ (List.getElem_mem hp)) hs
    exact plainF_fuel f g (l.drop k) (fun x hx=>h8 x (List.mem_of_mem_drop hx)) (by rw[List.length_drop];omega) (by rw[List.length_drop];omega)
theorem plain_step {l:List Nat} (h8:∀ x∈l,x<256) (hl:l≠[]):plain l=match step l with
  |none=>false
  |some k=>plain (l.drop k):=by
 have hp:0<l.length:=by cases l with|nil=>exact absurd rfl hl|cons x r=>simp
 have h0:l.getD 0 0<256:=by
  rw[List.getD_eq_getElem?_getD,List.getElem?_eq_getElem hp];exact h8 _ (List.getElem_mem hp)
 obtain ⟨n,hn⟩:∃ n,l.length=n+1:=⟨l.length-1,by omega⟩
 have e:plain l=plainF (n+1) l:=by rw[plain,hn]
 rw[e,plainF,if_neg hl]
 cases hs:step l with
 |none=>rfl
 |some k =>
  have hk:=step_le hl h0 hs
  exact plainF_fuel n _ _ (fun x hx=>h8 x (List.mem_of_mem_drop hx)) (by rw[List.length_drop];omega) (Nat.le_refl _)
def okc (c:Nat):Bool:=(decide (97≤c)&&decide (c≤122))||((decide (48≤c)&&decide (c≤57))||decide (c=45))
def label (l:List Nat):Bool:=decide (1≤l.length∧l.length≤24)&&(decide (l.getD 0 0≠45)&&(decide (l.getD (l.length-1) 0≠45)&&l.all okc))
def asked (l:List Nat) (most:Int):Nat:=if l.length=0 then 2 else if most<(l.length:Int) then 3 else if plain l=true then 0 else 8
end Pt
namespace Pt
def nums (l:List UInt8):List Nat:=l.map (·.toNat)
theorem nums_len (l:List UInt8):(nums l).length=l.length:=by rw[nums,List.length_map]
theorem nums_at (l:List UInt8) (i:Nat):(nums l).getD i 0=(l.getD i 0).toNat:=by
 rw[List.getD_eq_getElem?_getD,List.getD_eq_getElem?_getD,nums,List.getElem?_map]
 cases l[i]? <;> rfl
theorem nums_lt (l:List UInt8):∀ x∈nums l,x<256:=by
 intro x hx
 obtain ⟨b,_,rfl⟩:=List.mem_map.1 hx
 exact b.toNat_lt
theorem nums_drop (l:List UInt8) (k:Nat):(nums l).drop k=nums (l.drop k):=by rw[nums,nums,List.map_drop]
theorem step_decode (l:List UInt8):step (nums l)=if Lib.decodeL l=(65533,1) then none else if (Lib.decodeL l).1<32∨(Lib.decodeL l).1=127 then none else some (Lib.decodeL l).2:=by
 rw[step,nums_at,nums_at,nums_at,nums_at,nums_len,Lib.decodeL_N]
theorem plain_decode (l:List UInt8) (hne:l≠[]) (hv:Lib.validD l=true) :
  plain (nums l)=(if (Lib.decodeL l).1<32∨(Lib.decodeL l).1=127 then false else plain (nums (l.drop (Lib.decodeL l).2)))∧Lib.validD (l.drop (Lib.decodeL l).2)=true:=by
 rw[Lib.validD_step l hne] at hv
 split at hv
 ·cases hv
 ·rename_i hb
  have hb2:Lib.decodeL l≠(65533,1):=fun e=>hb (by rw[e];exact ⟨rfl,rfl⟩)
  refine ⟨?_,hv⟩
  rw[plain_step (nums_lt l) (by intro e;exact hne (List.map_eq_nil_iff.1 e)),step_decode,if_neg hb2]
  by_cases hc:(Lib.decodeL l).1<32∨(Lib.decodeL l).1=127
  ·rw[if_pos hc,if_pos hc]
  ·rw[if_neg hc,if_neg hc]
   show plain ((nums l).drop _)=_
   rw[nums_drop]
theorem plain_invalidF:∀ (n:Nat) (l:List UInt8),l.length≤n→Lib.validD l=false→plain (nums l)=false
 |0,l,hn,hv=>by
  obtain rfl:=List.eq_nil_of_length_eq_zero (Nat.le_zero.1 hn)
  rw[Lib.validD_nil] at hv
  cases hv
 |n+1,l,hn,hv=>by
  by_cases hne:l=[]
  ·subst hne;rw[Lib.validD_nil] at hv;cases hv
  ·rw[Lib.validD_step l hne] at hv
   rw[plain_step (nums_lt l) (by intro e;exact hne (List.map_eq_nil_iff.1 e)),step_decode]
   split at hv
   ·rename_i hb
    rw[if_pos (Prod.ext hb.1 hb.2)]
   ·rename_i hb
    have hb2:Lib.decodeL l≠(65533,1):=fun e=>hb (by rw[e];exact ⟨rfl,rfl⟩)
    rw[if_neg hb2]
    by_cases hc:(Lib.decodeL l).1<32∨(Lib.decodeL l).1=127
    ·rw[if_pos hc]
    ·rw[if_neg hc]
     show plain ((nums l).drop _)=_
     rw[nums_drop]
     have hw:=Lib.decodeL_width l
     have hp:=List.length_pos_iff.2 hne
     exact plain_invalidF n _ (by rw[List.length_drop];omega) hv
theorem plain_invalid (l:List UInt8) (hv:Lib.validD l=false):plain (nums l)=false:=plain_invalidF l.length l (Nat.le_refl _) hv
theorem allok_decode (l:List UInt8) (hne:l≠[]):(nums l).all okc=(okc (Lib.decodeL l).1&&(nums (l.drop (Lib.decodeL l).2)).all okc):=by
 match l,hne with
 |b :: t,_ =>
  by_cases hb:b.toNat<128
  ·rw[Lib.decodeL_ascii b t hb]
   simp[nums]
  ·have h1:okc b.toNat=false:=by simp[okc];omega
   have h2:okc (Lib.decodeL (b :: t)).1=false:=by
    rw[Lib.decodeL_N]
    have h0:((b :: t).getD 0 0).toNat=b.toNat:=rfl
    rw[h0]
    have hlt:=b.toNat_lt
    generalize b.toNat=x at *
    generalize ((b :: t).getD 1 0).toNat=y
    generalize ((b :: t).getD 2 0).toNat=z
    generalize ((b :: t).getD 3 0).toNat=u
    generalize (b :: t).length=n
    have:128≤(Lib.decodeN n x y z u).1:=by
     unfold Lib.decodeN
     repeat' split
     all_goals (simp only;omega)
    simp[okc];omega
   rw[h2]
   simp[nums,h1]
end Pt
end Go.Proofs.YtijkaknggdaajaaGreatDoor
namespace Go.Proofs.YtijkaknggdaajaaGreatDoor
open Go.RowKit
variable {P:Program}
theorem roundIn_any {n m:Nat} {l:Nat} {f:FuncId} {tmps:Array Value} {assign body:Code} {w:World} {R:Ending→World→Prop}
  (h:RoundIn Fence.wide n P l f tmps assign body w R):RoundIn Fence.wide m P l f tmps assign body w R:=⟨h.1,fun c cs _=>h.2 c cs (fun _ e=>by simp[Fence.wide] at e)⟩
def Within (T:Nat→Prop) (s k:Nat) (r:Nat):Prop:=T r∨(s≤r∧r<s+k)
structure KeepsP (p:Nat→Prop) (W W':World):Prop where
 os:W'.os=W.os
 tape:W'.tape=W.tape
 output:W'.output=W.output
 size:W.heap.size≤W'.heap.size
 same:∀ r,p r→W'.heap[r]?=W.heap[r]?
theorem KeepsP.refl (p:Nat→Prop) (W:World):KeepsP p W W:=⟨rfl,rfl,rfl,Nat.le_refl _,fun _ _=>rfl⟩
theorem KeepsP.trans {p:Nat→Prop} {A B C:World} (h:KeepsP p A B) (k:KeepsP p B C):KeepsP p A C:=⟨k.os.trans h.os,k.tape.trans h.tape,k.output.trans h.output,Nat.le_trans h.size k.size,fun r hr=>(k.same r hr).trans (h.same r hr)⟩
theorem KeepsP.grown {p:Nat→Prop} {A B:World} {row:Option Nat} (h:A.grownBy B row) (hp:∀ r,p r→r<A.heap.size∧some r≠row):KeepsP p A B:=⟨h.os,h.tape,h.output,h.size,fun r hr=>h.block r (hp r hr).1 (hp r hr).2⟩
theorem KeepsP.mono {p q:Nat→Prop} {A B:World} (h:KeepsP p A B) (hq:∀ r,q r→p r):KeepsP q A B:=⟨h.os,h.tape,h.output,h.size,fun r hr=>h.same r (hq r hr)⟩
theorem KeepsP.below {n:Nat} {A B:World} (h:KeepsP (fun r=>r<n) A B) (hn:A.heap.size≤n):A.grownBy B none:=⟨h.os,h.tape,h.output,h.size,fun k hk _=>h.same k (by omega)⟩
def Bears {α:Type} (p:Nat→Prop) (J:List α→World→Prop):Prop:=∀ s A B row,J s A→A.grownBy B row→(∀ r,row=some r→p r)→J s B
def YieldP (P:Program) (l:Nat) (args:Array Value) (W:World) (R:Ending→World→Prop):Prop :=
 ∃ fn tmps assign body,(Instr.yield l args).run P W=.ok (.round l fn tmps assign body) W∧∀ n,RoundIn Fence.wide n P l fn tmps assign body W R
theorem YieldP.mono {l:Nat} {args:Array Value} {W:World} {R R':Ending→World→Prop} (h:YieldP P l args W R) (hr:∀ e w,R e w→R' e w):YieldP P l args W R':=by
 obtain ⟨fn,tmps,assign,body,hy,hR⟩:=h
 exact ⟨fn,tmps,assign,body,hy,fun n=>(hR n).mono hr⟩
def SeqP {α:Type} (P:Program) (gf:Nat) (lb:Array Value) (encs:α→Array Value) (T C:Nat→Prop) (k:Nat) (src:List α) (w:World):Prop :=
 ∀ (l:Nat) (J Jx:List α→World→Prop) (W:World),KeepsP C w W →
  Bears (Within T W.heap.size k) J→Bears (Within T W.heap.size k) Jx →
  (∀ pre x W1,pre++[x] <+: src→J pre W1→W.heap.size+k≤W1.heap.size→YieldP P l (encs x) W1 fun e W' =>
   (e=.returned (.bool true)∧J (pre++[x]) W'∧KeepsP (Within C W.heap.size k) W1 W')∨(e=.returned (.bool false)∧Jx (pre++[x]) W'∧KeepsP (Within C W.heap.size k) W1 W')) →
  J [] W →
  Calls P gf (#[.func (.yield l) #[] #[]]++lb) W fun e W'=>(∃ v,e=.returned v)∧(J src W'∨(∃ pre,pre <+: src∧Jx pre W'))
theorem SeqP.later {α:Type} {gf:Nat} {lb:Array Value} {encs:α→Array Value} {T C:Nat→Prop} {k:Nat} {src:List α} {w w':World} (h:SeqP P gf lb encs T C k src w) (hk:KeepsP C w w'):SeqP P gf lb encs T C k src w' :=
 fun l J Jx W hW=>h l J Jx W (hk.trans hW)
def ownPostP {α:Type} (p:Nat→Prop) (I:List α→World→Prop) (Ix:Code→List α→World→Prop) (xs:List α) (W:World):Exit→Act→World→Prop
 |.normal,_,W'=>KeepsP p W W'∧I xs W'
 |.ret,_,W'=>KeepsP p W W'∧Ix .ret xs W'
 |.exit id,_,W'=>KeepsP p W W'∧Ix (.exit id) xs W'
 |.goto t,_,W'=>KeepsP p W W'∧Ix (.goto t) xs W'
 |.panic _,_,_=>False
 |.outgrown,_,_=>False
theorem grown_put (W:World) (l:Nat) (o:Obj):W.grownBy (W.putObj l o) (some l):=grownBy_putObj' W l o
theorem wpP_rangeFunc {α:Type} {g:Operand} {ps:Array Tmp} {assign body:Code} {Q:Exit→Act→World→Prop} {a:Act} {w:World}
  {gf:Nat} {lb:Array Value} (hg:a.eval g=.func (.func gf) #[] lb) (eg:∀ args w,(callFunc gf args).run P w=.ok (.enter gf args) w)
  {encs:α→Array Value} {T C:Nat→Prop} {k:Nat} {src:List α} (hseq:SeqP P gf lb encs T C k src w) (hps:∀ x,(encs x).size=ps.size)
  (hT:∀ r,T r→r<w.heap.size) (hC:∀ r,C r→r<w.heap.size)
  (I:List α→World→Prop) (Ix:Code→List α→World→Prop) (hI:Bears (Within T w.heap.size (k+2)) I) (hIx:∀ c,Bears (Within T w.heap.size (k+2)) (Ix c)) (h0:I [] w) (a₁:α→Act)
  (hassign:∀ (l:Nat) (x:α) (W:World) (K:Act→World→Prop),K (a₁ x) W →
   assign.wpIn (Fence.wide.inRound l) 5 P (Exit.then K (fun _ _ _=>False)) { tmps:=(ps.zip (encs x)).foldl (fun t (p,v)=>t.setIfInBounds p v) a.tmps,defers:=[] } W)
  (hbody:∀ (l:Nat) (pre:List α) (x:α) (W:World),w.heap.size+(k+2)≤W.heap.size→pre++[x] <+: src→I pre W →
   body.wpIn (Fence.wide.inRound l) 5 P (ownPostP (Within C w.heap.size (k+2)) I Ix (pre++[x]) W) (a₁ x) W)
  (hdone:∀ (W:World),I src W→W.heap[w.heap.size]?=some (.deferred (some []))→Q .normal { a with defers:={ target:=.collected w.heap.size,args:=#[] } :: a.defers } W)
  (hstop:∀ (c:Code) (pre:List α) (W:World),pre <+: src→Ix c pre W→W.heap[w.heap.size]?=some (.deferred (some []))→c.wpIn Fence.wide 5 P Q { a with defers:={ target:=.collected w.heap.size,args:=#[] } :: a.defers } W) :
  (Code.rangeFunc g ps assign body).wpIn Fence.wide 5 P Q a w:=by
 refine wpIn_rangeFunc ?_
 intro fn hfn
 obtain ⟨rec,hrec⟩:∃ rec:LoopState→Option Code→Loop,rec=fun st pe=>{ state:=st,pending:=pe,fn,tmps:=a.tmps,params:=ps,assign,body,defers:=w.heap.size }:=⟨_,rfl⟩
 obtain ⟨W1,hW1⟩:∃ W1,(w.alloc (.deferred (some []))).alloc (.loop (rec .ready none))=W1:=⟨_,rfl⟩
 have hs1:W1.heap.size=w.heap.size+2:=by rw[←hW1];simp
 have hL1:W1.heap[w.heap.size+1]?=some (.loop (rec .ready none)):=by
  rw[←hW1];have:=World.alloc_heap_new (w.alloc (.deferred (some []))) (.loop (rec .ready none));rwa [World.size_alloc] at this
 have hK1:W1.heap[w.heap.size]?=some (.deferred (some [])):=by
  rw[←hW1];exact (Below.heap_alloc _ _ _ (by simp)).trans (World.alloc_heap_new w _)
 have hg1:w.grownBy W1 none:=by
  rw[←hW1]
  have e1:=World.grownBy_alloc w (.deferred (some [])) none
  have e2:=World.grownBy_alloc (w.alloc (.deferred (some []))) (.loop (rec .ready none)) none
  exact ⟨e2.os.trans e1.os,e2.tape.trans e1.tape,e2.output.trans e1.output,Nat.le_trans e1.size e2.size,fun k hk hne=>(e2.block k (by simp;omega) hne).trans (e1.block k hk hne)⟩
 have hI1:I [] W1:=hI _ _ _ none h0 hg1 (fun r e=>by cases e)
 have put1:∀ {J:List α→World→Prop},Bears (Within T w.heap.size (k+2)) J→∀ {s:List α} {W:World} (o:Obj),J s W→J s (W.putObj (w.heap.size+1) o):=fun hJ s W o hs=>hJ s W _ _ hs (grown_put W _ o) (fun r e=>by cases e;exact .inr ⟨by omega,by omega⟩)
 refine ⟨w.heap.size+1,[{ target:=.collected w.heap.size,args:=#[] }],W1,{ target:=.fn (.func gf) lb,args:=#[.func (.yield (w.heap.size+1)) #[] #[]] },W1,gf,
  #[.func (.yield (w.heap.size+1)) #[] #[]]++lb,W1,?_,?_,?_,?_,fun h=>by simp[Fence.wide] at h,?_⟩
 ·rw[←hW1,hrec];exact run_enterLoop_outer _ _ _ _ _
 ·simp only[resolve,hg]
  simp[go_sem]
 ·intro f' _;trivial
 ·simp[invoke,go_sem,eg]
 ·refine callsIn_wide.2 ((hseq (w.heap.size+1)
   (fun pre W=>I pre W∧W.heap[w.heap.size+1]?=some (.loop (rec .ready none))∧W.heap[w.heap.size]?=some (.deferred (some [])))
   (fun pre W=>∃ c,Ix c pre W∧W.heap[w.heap.size+1]?=some (.loop (rec .done (some c)))∧W.heap[w.heap.size]?=some (.deferred (some [])))
   W1 (.grown hg1 (fun r hr=>⟨hC r hr,by simp⟩)) ?_ ?_ ?_ ⟨hI1,hL1,hK1⟩).mono ?_)
  ·rintro s A B row ⟨h1,h2,h3⟩ hg' hr
   have hne:∀ r,r=w.heap.size∨r=w.heap.size+1→some r≠row:=fun r hr' e=>by
    rcases hr r e.symm with h|h
    ·have:=hT r h;omega
    ·rw[hs1] at h;omega
   refine ⟨hI s A B row h1 hg' (fun r e=>?_),(hg'.block _ (Array.getElem?_eq_some_iff.1 h2).1 (hne _ (.inr rfl))).trans h2,(hg'.block _ (Array.getElem?_eq_some_iff.1 h3).1 (hne _ (.inl rfl))).trans h3⟩
   rcases hr r e with h|h
   ·exact .inl h
   ·exact .inr (by rw[hs1] at h;omega)
  ·rintro s A B row ⟨c,h1,h2,h3⟩ hg' hr
   have hne:∀ r,r=w.heap.size∨r=w.heap.size+1→some r≠row:=fun r hr' e=>by
    rcases hr r e.symm with h|h
    ·have:=hT r h;omega
    ·rw[hs1] at h;omega
   refine ⟨c,hIx c s A B row h1 hg' (fun r e=>?_),(hg'.block _ (Array.getElem?_eq_some_iff.1 h2).1 (hne _ (.inr rfl))).trans h2,(hg'.block _ (Array.getElem?_eq_some_iff.1 h3).1 (hne _ (.inl rfl))).trans h3⟩
   rcases hr r e with h|h
   ·exact .inl h
   ·exact .inr (by rw[hs1] at h;omega)
  ·-- one round
   rintro pre x W hpre ⟨hi,hl,hk⟩ hsz
   rw[hs1] at hsz
   have hlt:w.heap.size+1<W.heap.size:=(Array.getElem?_eq_some_iff.1 hl).1
   have hy:=run_yield (P:=P) (args:=encs x) hl (by rw[hrec];exact hps x)
   rw[hrec] at hy
   refine ⟨fn,_,assign,body,hy,fun n=>roundIn_any (n:=5) (roundIn_of_wpIn hfn (hassign _ x W _ ⟨_,run_beginRound hl (by rw[hrec]),?_⟩))⟩
   have hl2:(W.putObj (w.heap.size+1) (.loop { rec .ready none with state:=.busy })).heap[w.heap.size+1]?=some (.loop { rec .ready none with state:=.busy }):=World.putObj_heap_same hlt
   have hk2:(W.putObj (w.heap.size+1) (.loop { rec .ready none with state:=.busy })).heap[w.heap.size]?=some (.deferred (some [])):=(World.putObj_heap_other (by omega)).trans hk
   refine wpIn_mono (hbody _ pre x _ (by simp;omega) hpre (put1 hI _ hi)) ?_
   have fin:∀ (jump:Option Code) (W3:World),KeepsP (Within C w.heap.size (k+2)) (W.putObj (w.heap.size+1) (.loop { rec .ready none with state:=.busy })) W3 →
     (Instr.endRound (w.heap.size+1) jump).run P W3=.ok (.bool jump.isNone) (W3.putObj (w.heap.size+1) (.loop (rec (if jump.isNone then .ready else .done) jump))) ∧
     (W3.putObj (w.heap.size+1) (.loop (rec (if jump.isNone then .ready else .done) jump))).heap[w.heap.size+1]?=some (.loop (rec (if jump.isNone then .ready else .done) jump)) ∧
     (W3.putObj (w.heap.size+1) (.loop (rec (if jump.isNone then .ready else .done) jump))).heap[w.heap.size]?=some (.deferred (some [])):=fun jump W3 hk3=>by
    have hl3:=(hk3.same (w.heap.size+1) (.inr ⟨by omega,by omega⟩)).trans hl2
    have:=run_endRound (P:=P) jump hl3
    rw[hrec] at this ⊢
    exact ⟨this,World.putObj_heap_same (Array.getElem?_eq_some_iff.1 hl3).1,(World.putObj_heap_other (by omega)).trans ((hk3.same w.heap.size (.inr ⟨by omega,by omega⟩)).trans hk2)⟩
   have kp:∀ (jump:Option Code) (W3:World),KeepsP (Within C w.heap.size (k+2)) (W.putObj (w.heap.size+1) (.loop { rec .ready none with state:=.busy })) W3 →
     KeepsP (Within C W1.heap.size k) W (W3.putObj (w.heap.size+1) (.loop (rec (if jump.isNone then .ready else .done) jump))):=fun jump W3 hk3=>by
    refine ⟨hk3.os,hk3.tape,hk3.output,by have:=hk3.size;simp at this ⊢;exact this,fun r hr=>?_⟩
    have hne:r≠w.heap.size+1:=by
     rcases hr with h|h
     ·have:=hC r h;omega
     ·rw[hs1] at h;omega
    rw[World.putObj_heap_other hne,hk3.same r (by rcases hr with h|h;exact .inl h;exact .inr (by rw[hs1] at h;omega)),World.putObj_heap_other hne]
   rintro e a3 W3 hp
   cases e with
   |normal =>
    obtain ⟨hk3,hi3⟩:=hp
    obtain ⟨hr,hl4,hk4⟩:=fin none W3 hk3
    exact ⟨_,_,hr,.inl ⟨rfl,⟨put1 hI _ hi3,hl4,hk4⟩,kp none W3 hk3⟩⟩
   |ret =>
    obtain ⟨hk3,hi3⟩:=hp
    obtain ⟨hr,hl4,hk4⟩:=fin (some .ret) W3 hk3
    exact ⟨_,_,hr,.inr ⟨rfl,⟨.ret,put1 (hIx _) _ hi3,hl4,hk4⟩,kp (some .ret) W3 hk3⟩⟩
   |exit id =>
    obtain ⟨hk3,hi3⟩:=hp
    obtain ⟨hr,hl4,hk4⟩:=fin (some (.exit id)) W3 hk3
    exact ⟨_,_,hr,.inr ⟨rfl,⟨.exit id,put1 (hIx _) _ hi3,hl4,hk4⟩,kp (some (.exit id)) W3 hk3⟩⟩
   |goto t =>
    obtain ⟨hk3,hi3⟩:=hp
    obtain ⟨hr,hl4,hk4⟩:=fin (some (.goto t)) W3 hk3
    exact ⟨_,_,hr,.inr ⟨rfl,⟨.goto t,put1 (hIx _) _ hi3,hl4,hk4⟩,kp (some (.goto t)) W3 hk3⟩⟩
   |panic ch=>exact hp.elim
   |outgrown=>exact hp.elim
  ·-- behind the iterator
   rintro e W2 ⟨⟨v,rfl⟩,(⟨hi,hl,hk⟩|⟨pre,hSp,c,hi,hl,hk⟩)⟩
   ·exact ⟨none,_,by have:=run_endLoop (P:=P) hl (by rw[hrec];simp);rw[hrec] at this;exact this,hdone _ (put1 hI _ hi) ((World.putObj_heap_other (by omega)).trans hk)⟩
   ·exact ⟨some c,_,by have:=run_endLoop (P:=P) hl (by rw[hrec];simp);rw[hrec] at this;exact this,hstop c pre _ hSp (put1 (hIx c) _ hi) ((World.putObj_heap_other (by omega)).trans hk)⟩
end Go.Proofs.YtijkaknggdaajaaGreatDoor
