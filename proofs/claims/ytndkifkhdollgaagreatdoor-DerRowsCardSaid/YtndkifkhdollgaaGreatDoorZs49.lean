import Derived.Test.YtndkifkhdollgaaGreatDoorZs23
import Derived.Test.YtndkifkhdollgaaGreatDoorZs28
import Derived.Test.YtndkifkhdollgaaGreatDoorZs34
import Derived.Test.YtndkifkhdollgaaGreatDoorZs48
import Derived.Lib.SmallJoins
set_option linter.unusedVariables false
set_option linter.unusedSimpArgs false
set_option maxRecDepth 100000
set_option maxHeartbeats 1000000
namespace Go.Proofs.YtndkifkhdollgaaGreatDoor
open Lib (hid)
open Go.RowKit
theorem PrW.new {A:Nat→Addr} {W0 w:World} (hb:W0.grownBy w none) :
  PrW A W0 (fun k=>k=w.heap.size) w.heap.size De.St.zero (w.alloc (.cells #[.slice none 0 0,.slice none 0 0,.nilIface] 50)):=by
 have hs:(w.alloc (.cells #[.slice none 0 0,.slice none 0 0,.nilIface] 50)).heap.size=w.heap.size+1:=alloc_size _ _
 have h0:=hb.size
 refine ⟨grown_alloc hb _,fun k hk=>⟨by rw[hk];exact h0,by rw[hs,hk];omega⟩,rfl,.slice none 0 0,.slice none 0 0,alloc_at w _,fun _=>⟨0,fun _=>.slice none 0 0,rfl,by omega,fun k hk=>?_,by simp[Value.ownBlock],by simp[Value.ownBlock],fun j hj=>absurd hj (by omega),fun i j hi=>absurd hi (by omega),⟨[],⟨rfl,.inl ⟨rfl,rfl⟩⟩,fun j hj=>absurd hj (by omega)⟩,⟨rfl,.inl ⟨rfl,rfl⟩⟩,by simp[De.St.zero],fun j hj=>absurd hj (by omega)⟩⟩
 rcases hk with hk|hk|hk|⟨j,hj,hk⟩
 ·exact hk
 ·exact absurd hk (by simp[Value.ownBlock])
 ·exact absurd hk (by simp[Value.ownBlock])
 ·omega
theorem prInt_e {A:Nat→Addr} {W0 w:World} {F:Nat→Prop} {b:Nat} {s:De.St} (h:PrW A W0 F b s w) (hA:AllErrs W0 A) (hl:Lim 1000 s) (v:De.Val) (hk:v.kind=3) (hn:De.I64 v.n) :
  Calls Tryz.prog 49 #[.pointer (some ⟨b,0,none⟩),.int .i64 v.n] w fun e w'=>PrPost A W0 F b w w' (De.step s v) e:=by
 have hmf:=mkFn
 have HX:=hid h
 obtain ⟨h1,h2⟩:=hn
 have hst:De.step s v=if s.e=0 then putR s 2 (.ok (Wh.body v.n)) else s:=step_putR (by omega) (by omega) (by omega) (by unfold De.body;rw[if_pos hk])
 have HS:=hid (sure_int 94 w)
 have hlen:(Wh.body v.n).length≤1000:=by have:=Wh.body_len v.n;omega
 have HW:Hid (∀ W,W=w.alloc (.cells #[.func (.func 94) #[] #[]] 141)→Calls Tryz.prog 92 #[.pointer (some ⟨b,0,none⟩),.int .i64 2,.int .i64 v.n,.func (.func 145) #[] #[.pointer (some ⟨w.heap.size,0,none⟩)]] W fun e w'=>PrPost A W0 F b w w' (De.step s v) e):=hid (fun W hW=>by
  rw[hst]
  subst hW
  have hga:=World.grownBy_alloc w (.cells #[.func (.func 94) #[] #[]] 141) none
  refine (prWrite_int (HX.out.grow hga) hA hl 2 (by decide) _ 145 #[.pointer (some ⟨w.heap.size,0,none⟩)] (.ok (Wh.body v.n)) ⟨by omega,Wh.body_lt v.n⟩ (enters_any Tryz.func145 (by kernel_rfl) rfl) (fun W2 hg2=>?_)).mono (fun e w' hp=>HX.out.after hga hp)
  refine sureClo_int A 94 w.heap.size _ _ W2 ((World.cell?_of_block (hg2.block w.heap.size (by rw[alloc_size];omega) (by simp))).trans (cell_blk (alloc_at _ _) 0 rfl)) (enters_any Tryz.func94 (by kernel_rfl) rfl) ((put_any v.n h1 h2 W2).mono (fun e w' hp=>⟨_,_,hp.1,hp.2.1,hp.2.2,Whole0.some _ _ _⟩)))
 clear h hst hl hlen hA
 go_enter Tryz.func49,Tryz.ntmps49
 go_wp2_with (first
  |(go_at_call 93;refine HS.out.mono ?_;rintro e w2 ⟨rfl,hw2⟩;have HW2:=hid hw2;clear hw2)
  |(go_at_call 92;refine (HW.out _ HW2.out).mono ?_;rintro e w3 ⟨rfl,k1,k2⟩;have K1:=hid k1;have K2:=hid k2;clear k1 k2))
 go_returns
 exact ⟨rfl,K1.out,K2.out⟩
theorem prOpen_step_e {A:Nat→Addr} {W0 w:World} {F:Nat→Prop} {b:Nat} {s:De.St} (h:PrW A W0 F b s w) (hA:AllErrs W0 A) (v:De.Val) (hk:v.kind=1) :
  Calls Tryz.prog 47 #[.pointer (some ⟨b,0,none⟩),.int .i64 v.n] w fun e w'=>PrPost A W0 F b w w' (De.step s v) e:=by
 have hst:De.step s v=if s.e=0 then De.opn s v.n else s:=by
  unfold De.step
  by_cases he:s.e=0
  ·rw[if_pos he,if_neg (fun h=>h he),if_pos hk]
  ·rw[if_neg he,if_pos he]
 rw[hst]
 exact prOpen_any h hA v.n
theorem alive8e_state:De.step (De.step (De.step De.St.zero ⟨1,48,false,[],[]⟩) ⟨3,5,false,[],[]⟩) ⟨2,0,false,[],[]⟩=⟨0,[],[[48,3,2,1,5]]⟩:=by kernel_rfl
theorem alive8e_mid:De.step (De.step De.St.zero ⟨1,48,false,[],[]⟩) ⟨3,5,false,[],[]⟩=⟨0,[(48,[[2,1,5]])],[]⟩:=by kernel_rfl
theorem alive8_e (A:Nat→Addr) (w:World) (hA:AllErrs w A):Calls Tryz.prog 8 #[] w fun e w'=>e=.returned (.bool true)∧w.grownBy w' none:=by
 have HA:=hid hA
 have h0:PrW A w (fun k=>k=w.heap.size) w.heap.size De.St.zero (w.alloc (.cells #[.slice none 0 0,.slice none 0 0,.nilIface] 50)):=PrW.new (grown_refl _ _)
 have H1:=hid (prOpen_step_e h0 hA ⟨1,48,false,[],[]⟩ rfl)
 have L0:=Lim.zero
 have hL1:Hid (Lim 1000 (De.step De.St.zero ⟨1,48,false,[],[]⟩)):=hid (L0.step.mono (by decide))
 have hL2:Hid (Lim 1000 (De.step (De.step De.St.zero ⟨1,48,false,[],[]⟩) ⟨3,5,false,[],[]⟩)):=hid (L0.step.step.mono (by decide))
 have hL3:Hid (Lim 1000 (De.step (De.step (De.step De.St.zero ⟨1,48,false,[],[]⟩) ⟨3,5,false,[],[]⟩) ⟨2,0,false,[],[]⟩)):=hid (L0.step.step.step.mono (by decide))
 have hMd:Hid (∀ p∈(De.step (De.step De.St.zero ⟨1,48,false,[],[]⟩) ⟨3,5,false,[],[]⟩).op,Tl.made (p.1:Nat)=true):=hid (by rw[alive8e_mid];simp;decide)
 have k1:((strOf [48,3,2,1,5]).toList==[48,3,2,1,5])=true:=by decide +kernel
 have HD:Hid (De.done (De.step (De.step (De.step De.St.zero ⟨1,48,false,[],[]⟩) ⟨3,5,false,[],[]⟩) ⟨2,0,false,[],[]⟩)=.ok [48,3,2,1,5]):=hid (by rw[alive8e_state];kernel_rfl)
 obtain ⟨S1,hS1⟩:∃ S,S=De.step De.St.zero ⟨1,48,false,[],[]⟩:=⟨_,rfl⟩
 obtain ⟨S2,hS2⟩:∃ S,S=De.step S1 ⟨3,5,false,[],[]⟩:=⟨_,rfl⟩
 obtain ⟨S3,hS3⟩:∃ S,S=De.step S2 ⟨2,0,false,[],[]⟩:=⟨_,rfl⟩
 rw[←hS1] at H1 hL1 hL2 hL3 hMd HD
 rw[←hS2] at hL2 hL3 hMd HD
 rw[←hS3] at hL3 HD
 have HI:Hid (∀ F W,PrW A w F w.heap.size S1 W→Calls Tryz.prog 49 #[.pointer (some ⟨w.heap.size,0,none⟩),.int .i64 5] W fun e w'=>PrPost A w F w.heap.size W w' S2 e):=hid (fun F W h=>by rw[hS2];exact prInt_e h hA hL1.out ⟨3,5,false,[],[]⟩ rfl ⟨by decide,by decide⟩)
 have HCl:Hid (∀ F W,PrW A w F w.heap.size S2 W→Calls Tryz.prog 51 #[.pointer (some ⟨w.heap.size,0,none⟩)] W fun e w'=>PrPost A w F w.heap.size W w' S3 e):=hid (fun F W h=>by rw[hS3];exact prClose_any h hA hL2.out hMd.out ⟨2,0,false,[],[]⟩ rfl)
 have HDn:Hid (∀ F W,PrW A w F w.heap.size S3 W→Calls Tryz.prog 25 #[.pointer (some ⟨w.heap.size,0,none⟩)] W fun e w'=>W.grownBy w' none∧∃ a c,e=.returned (.tuple #[.slice a 5 c,.nilIface])∧Bytes w' (.slice a 5 c) [48,3,2,1,5]):=hid (fun F W h=>(prDone_any h hA hL3.out).mono (fun e w' hp=>by
  rw[HD.out] at hp
  obtain ⟨g1,a,c,g2,g3,_⟩:=hp
  exact ⟨g1,a,c,g2,g3⟩))
 clear hA h0 L0 hL1 hL2 hL3 hMd hS1 hS2 hS3 HD
 go_enter Tryz.func8,Tryz.ntmps8
 go_wp2_with (first
  |(go_at_call 47;refine H1.out.mono ?_;rintro e w3 ⟨rfl,k1,k2⟩;have K1:=hid k2;clear k1 k2)
  |(go_at_call 49;refine (HI.out _ _ K1.out).mono ?_;rintro e w4 ⟨rfl,k1,k2⟩;have K2:=hid k2;clear k1 k2)
  |(go_at_call 51;refine (HCl.out _ _ K2.out).mono ?_;rintro e w5 ⟨rfl,k1,k2⟩;have K3:=hid k2;clear k1 k2)
  |(go_at_call 25;refine (HDn.out _ _ K3.out).mono ?_;rintro e w6 ⟨hg6,a,c,rfl,hB6⟩;have G6:Hid (w.grownBy w6 none):=hid (grown_join K3.out.base hg6);have c1:=conv_bytes (P:=Tryz.prog) hB6 22 5 9 Tryz.underlying22 Tryz.underlying5 Tryz.underlying9;clear hg6 hB6))
 go_ret
 exact ⟨retBo (by simp),G6.out⟩
end Go.Proofs.YtndkifkhdollgaaGreatDoor
