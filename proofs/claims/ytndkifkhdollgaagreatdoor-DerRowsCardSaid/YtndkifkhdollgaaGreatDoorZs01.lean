import Derived.Lib.Hide
import Derived.Lib.DecodeN
import Derived.Shelf.Small.Bits
import Derived.Test.YtndkifkhdollgaaGreatDoorProg
set_option linter.unusedVariables false
set_option linter.unusedSimpArgs false
namespace Go.Proofs.YtndkifkhdollgaaGreatDoor
namespace Pt
def step (l:List Nat):Option Nat :=
 if Lib.decodeN l.length (l.getD 0 0) (l.getD 1 0) (l.getD 2 0) (l.getD 3 0)=(65533,1) then none
 else if (Lib.decodeN l.length (l.getD 0 0) (l.getD 1 0) (l.getD 2 0) (l.getD 3 0)).1<32∨(Lib.decodeN l.length (l.getD 0 0) (l.getD 1 0) (l.getD 2 0) (l.getD 3 0)).1=127 then none
 else some (Lib.decodeN l.length (l.getD 0 0) (l.getD 1 0) (l.getD 2 0) (l.getD 3 0)).2
def plainF:Nat→List Nat→Bool
 |0,_=>true
 |f+1,l=>if l=[] then true else match step l with
  |none=>false
  |some k=>plainF f (l.drop k)
def plain (l:List Nat):Bool:=plainF l.length l
theorem step1 (l:List Nat) (h:l.getD 0 0<128):step l=if l.getD 0 0<32∨l.getD 0 0=127 then none else some 1:=by
 have e:∀ n b1 b2 b3,Lib.decodeN n (l.getD 0 0) b1 b2 b3=(l.getD 0 0,1):=fun n b1 b2 b3=>by rw[Lib.decodeN,if_pos h]
 rw[step,e,if_neg (by intro h2;have:=(Prod.mk.inj h2).1;omega)]
theorem dec2 (n b0 b1 b2 b3:Nat) (h1:192≤b0) (h2:b0<224):Lib.decodeN n b0 b1 b2 b3=if 1<n∧(128≤b1∧b1≤191)∧128≤(b0-192)*64+(b1-128) then ((b0-192)*64+(b1-128),2) else (65533,1):=by
 rw[Lib.decodeN,if_neg (by omega)]
 by_cases hc:1<n∧b1/64=2
 ·rw[if_pos (⟨by omega,hc⟩:b0/32=6∧_)]
  by_cases hv:b0%32*64+b1%64 ≥ 128
  ·rw[if_pos hv,if_pos (by omega),Prod.mk.injEq];omega
  ·rw[if_neg hv,if_neg (by omega)]
 ·rw[if_neg (by omega),if_neg (by omega),if_neg (by omega),if_neg (by omega)]
theorem dec3 (n b0 b1 b2 b3:Nat) (h1:224≤b0) (h2:b0<240):Lib.decodeN n b0 b1 b2 b3=if 2<n∧(128≤b1∧b1≤191)∧(128≤b2∧b2≤191)∧2048≤((b0-224)*64+(b1-128))*64+(b2-128)∧¬ (55296≤((b0-224)*64+(b1-128))*64+(b2-128)∧((b0-224)*64+(b1-128))*64+(b2-128)<57344) then (((b0-224)*64+(b1-128))*64+(b2-128),3) else (65533,1):=by
 rw[Lib.decodeN,if_neg (by omega),if_neg (by omega)]
 by_cases hc:(1<n∧b1/64=2)∧(2<n∧b2/64=2)
 ·rw[if_pos (⟨by omega,hc⟩:b0/16=14∧_)]
  by_cases hv:b0%16*4096+b1%64*64+b2%64 ≥ 2048∧(b0%16*4096+b1%64*64+b2%64<55296∨(57344≤b0%16*4096+b1%64*64+b2%64∧b0%16*4096+b1%64*64+b2%64≤1114111))
  ·rw[if_pos hv,if_pos (by omega),Prod.mk.injEq];omega
  ·rw[if_neg hv,if_neg (by omega)]
 ·rw[if_neg (by omega),if_neg (by omega),if_neg (by omega)]
theorem dec4 (n b0 b1 b2 b3:Nat) (h1:240≤b0) (h2:b0<248):Lib.decodeN n b0 b1 b2 b3=if 3<n∧(128≤b1∧b1≤191)∧(128≤b2∧b2≤191)∧(128≤b3∧b3≤191)∧65536≤(((b0-240)*64+(b1-128))*64+(b2-128))*64+(b3-128)∧(((b0-240)*64+(b1-128))*64+(b2-128))*64+(b3-128)≤1114111 then ((((b0-240)*64+(b1-128))*64+(b2-128))*64+(b3-128),4) else (65533,1):=by
 rw[Lib.decodeN,if_neg (by omega),if_neg (by omega),if_neg (by omega)]
 by_cases hc:(1<n∧b1/64=2)∧(2<n∧b2/64=2)∧(3<n∧b3/64=2)
 ·rw[if_pos (⟨by omega,hc⟩:b0/8=30∧_)]
  by_cases hv:b0%8*262144+b1%64*4096+b2%64*64+b3%64 ≥ 65536∧(b0%8*262144+b1%64*4096+b2%64*64+b3%64<55296∨(57344≤b0%8*262144+b1%64*4096+b2%64*64+b3%64∧b0%8*262144+b1%64*4096+b2%64*64+b3%64≤1114111))
  ·rw[if_pos hv,if_pos (by omega),Prod.mk.injEq];omega
  ·rw[if_neg hv,if_neg (by omega)]
 ·rw[if_neg (by omega),if_neg (by omega)]
theorem step_ok {l:List Nat} {v k:Nat} {c:Prop} [Decidable c] (h:Lib.decodeN l.length (l.getD 0 0) (l.getD 1 0) (l.getD 2 0) (l.getD 3 0)=if c then (v,k) else (65533,1)) (hk:k≠1) (hv:c→128≤v):step l=if c then some k else none:=by
 rw[step,h]
 by_cases hc:c
 ·rw[if_pos hc,if_pos hc,if_neg (by intro e;exact hk (Prod.mk.inj e).2),if_neg (by have:=hv hc;simp only;omega)]
 ·rw[if_neg hc,if_neg hc,if_pos rfl]
theorem step2 (l:List Nat) (h1:192≤l.getD 0 0) (h2:l.getD 0 0<224) :
  step l=if 1<l.length∧(128≤l.getD 1 0∧l.getD 1 0≤191)∧128≤(l.getD 0 0-192)*64+(l.getD 1 0-128) then some 2 else none :=
 step_ok (dec2 _ _ _ _ _ h1 h2) (by decide) (fun h=>h.2.2)
theorem step3 (l:List Nat) (h1:224≤l.getD 0 0) (h2:l.getD 0 0<240) :
  step l=if 2<l.length∧(128≤l.getD 1 0∧l.getD 1 0≤191)∧(128≤l.getD 2 0∧l.getD 2 0≤191)∧2048≤((l.getD 0 0-224)*64+(l.getD 1 0-128))*64+(l.getD 2 0-128) ∧
   ¬ (55296≤((l.getD 0 0-224)*64+(l.getD 1 0-128))*64+(l.getD 2 0-128)∧((l.getD 0 0-224)*64+(l.getD 1 0-128))*64+(l.getD 2 0-128)<57344) then some 3 else none :=
 step_ok (dec3 _ _ _ _ _ h1 h2) (by decide) (fun h=>by omega)
theorem step4 (l:List Nat) (h1:240≤l.getD 0 0) (h2:l.getD 0 0<248) :
  step l=if 3<l.length∧(128≤l.getD 1 0∧l.getD 1 0≤191)∧(128≤l.getD 2 0∧l.getD 2 0≤191)∧(128≤l.getD 3 0∧l.getD 3 0≤191)∧65536≤(((l.getD 0 0-240)*64+(l.getD 1 0-128))*64+(l.getD 2 0-128))*64+(l.getD 3 0-128) ∧
   (((l.getD 0 0-240)*64+(l.getD 1 0-128))*64+(l.getD 2 0-128))*64+(l.getD 3 0-128)≤1114111 then some 4 else none :=
 step_ok (dec4 _ _ _ _ _ h1 h2) (by decide) (fun h=>by omega)
theorem stepX (l:List Nat) (h:(128≤l.getD 0 0∧l.getD 0 0<192)∨248≤l.getD 0 0) (h2:l.getD 0 0<256):step l=none:=by
 generalize hb0:l.getD 0 0=b0 at *
 have e:Lib.decodeN l.length b0 (l.getD 1 0) (l.getD 2 0) (l.getD 3 0)=(65533,1):=by
  rw[Lib.decodeN,if_neg (by omega),if_neg (by omega),if_neg (by omega),if_neg (by omega)]
 rw[step,hb0,e,if_pos rfl]
theorem step_le {l:List Nat} {k:Nat} (hl:l≠[]) (h8:l.getD 0 0<256) (h:step l=some k):1≤k∧k≤l.length:=by
 have hp:0<l.length:=by cases l with|nil=>exact absurd rfl hl|cons x r=>simp
 rcases Nat.lt_or_ge (l.getD 0 0) 128 with c|c
 ·rw[step1 l c] at h;split at h <;> cases h;omega
 ·rcases Nat.lt_or_ge (l.getD 0 0) 192 with c2|c2
  ·rw[stepX l (.inl ⟨c,c2⟩) h8] at h;cases h
  ·rcases Nat.lt_or_ge (l.getD 0 0) 224 with c3|c3
   ·rw[step2 l c2 c3] at h;split at h <;> cases h;omega
   ·rcases Nat.lt_or_ge (l.getD 0 0) 240 with c4|c4
    ·rw[step3 l c3 c4] at h;split at h <;> cases h;omega
    ·rcases Nat.lt_or_ge (l.getD 0 0) 248 with c5|c5
     ·rw[step4 l c4 c5] at h;split at h <;> cases h;omega
     ·rw[stepX l (.inr c5) h8] at h;cases h
theorem plainF_nil (f:Nat):plainF f []=true:=by cases f <;> simp[plainF]
theorem plainF_fuel:∀ (f g:Nat) (l:List Nat),(∀ x∈l,x<256)→l.length≤f→l.length≤g→plainF f l=plainF g l
 |0,g,l,_,hf,_=>by
  obtain rfl:=List.eq_nil_of_length_eq_zero (Nat.le_zero.1 hf)
  rw[plainF_nil,plainF_nil]
 |f+1,0,l,_,_,hg=>by
  obtain rfl:=List.eq_nil_of_length_eq_zero (Nat.le_zero.1 hg)
  rw[plainF_nil,plainF_nil]
 |f+1,g+1,l,h8,hf,hg=>by
  rw[plainF,plainF]
  by_cases hl:l=[]
  ·rw[if_pos hl,if_pos hl]
  ·rw[if_neg hl,if_neg hl]
   cases hs:step l with
   |none=>rfl
   |some k =>
    have hk:=step_le hl (by
     have hp:0<l.length:=by cases l with|nil=>exact absurd rfl hl|cons x r=>simp
     rw[List.getD_eq_getElem?_getD,List.getElem?_eq_getElem hp]
     exact h8 _ (List.getElem_mem hp)) hs
    exact plainF_fuel f g (l.drop k) (fun x hx=>h8 x (List.mem_of_mem_drop hx)) (by rw[List.length_drop];omega) (by rw[List.length_drop];omega)
theorem plain_step {l:List Nat} (h8:∀ x∈l,x<256) (hl:l≠[]):plain l=match step l with
  |none=>false
  |some k=>plain (l.drop k):=by
 have hp:0<l.length:=by cases l with|nil=>exact absurd rfl hl|cons x r=>simp
 have h0:l.getD 0 0<256:=by
  rw[List.getD_eq_getElem?_getD,List.getElem?_eq_getElem hp];exact h8 _ (List.getElem_mem hp)
 obtain ⟨n,hn⟩:∃ n,l.length=n+1:=⟨l.length-1,by omega⟩
 have e:plain l=plainF (n+1) l:=by rw[plain,hn]
 rw[e,plainF,if_neg hl]
 cases hs:step l with
 |none=>rfl
 |some k =>
  have hk:=step_le hl h0 hs
  exact plainF_fuel n _ _ (fun x hx=>h8 x (List.mem_of_mem_drop hx)) (by rw[List.length_drop];omega) (Nat.le_refl _)
def asked (l:List Nat) (most:Int):Nat:=if l.length=0 then 2 else if most<(l.length:Int) then 3 else if plain l=true then 0 else 8
end Pt
end Go.Proofs.YtndkifkhdollgaaGreatDoor
namespace Go.Proofs
open Go.Shelf
def Tryz.lays125_ren:Go.Shelf.Ren:=⟨fun|125=>181|128=>206|129=>207|n=>n,fun|46=>223|3=>3|51=>248|53=>224|4=>4|5=>5|9=>9|n=>n,fun|n=>n⟩
theorem Tryz.lays125:Go.Proofs.Lays.n125 Tryz.prog Tryz.lays125_ren:={
 mixed:=by kernel_rfl
 f125:=Tryz.func181.trans (congrArg some (by kernel_rfl))
 f128:=Tryz.func206.trans (congrArg some (by kernel_rfl))
 f129:=Tryz.func207.trans (congrArg some (by kernel_rfl))
 t3:=Tryz.underlying3
 a3:=Tryz.isAgg3
 z3:=Tryz.sizeOf3
 v3:=Tryz.zeroValue3
 t4:=Tryz.underlying4
 a4:=Tryz.isAgg4
 z4:=Tryz.sizeOf4
 v4:=Tryz.zeroValue4
 t5:=Tryz.underlying5
 a5:=Tryz.isAgg5
 z5:=Tryz.sizeOf5
 v5:=Tryz.zeroValue5
 t9:=Tryz.underlying9
 a9:=Tryz.isAgg9
 z9:=Tryz.sizeOf9
 v9:=Tryz.zeroValue9
 t46:=Tryz.underlying223
 a46:=Tryz.isAgg223
 z46:=Tryz.sizeOf223
 v46:=Tryz.zeroValue223
 t51:=Tryz.underlying248
 a51:=Tryz.isAgg248
 z51:=Tryz.sizeOf248
 v51:=Tryz.zeroValue248
 t53:=Tryz.underlying224
 a53:=Tryz.isAgg224
 z53:=Tryz.sizeOf224
 v53:=Tryz.zeroValue224 }
end Go.Proofs
namespace Go.Proofs.YtndkifkhdollgaaGreatDoor
theorem bitsLen_any (x:Int) (w:World) (h0:0≤x) (h1:x≤18446744073709551615) :
  Calls Tryz.prog 181 #[.int .u64 x] w fun e w'=>e=.returned (.int .i64 (Lib.bitLen x.toNat))∧w'=w:=Any.bits_Len Tryz.lays125 x w h0 h1
end Go.Proofs.YtndkifkhdollgaaGreatDoor
