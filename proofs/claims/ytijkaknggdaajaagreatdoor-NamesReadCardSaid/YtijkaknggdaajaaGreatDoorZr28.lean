import Derived.Test.YtijkaknggdaajaaGreatDoorZr04
import Derived.Test.YtijkaknggdaajaaGreatDoorZr15
import Derived.Test.YtijkaknggdaajaaGreatDoorZr27
set_option linter.unusedVariables false
set_option linter.unusedSimpArgs false
set_option maxRecDepth 100000
set_option maxHeartbeats 2000000
namespace Go.Proofs.YtijkaknggdaajaaGreatDoor
open Lib (hid)
open Go.RowKit
def WhR (r:Except Nat Nat):Ending:=match r with
 |.error k=>.returned (.tuple #[.int .i64 0,.int .i64 (k:Int)])
 |.ok d=>.returned (.tuple #[.int .i64 (d:Int),.int .i64 0])
def lenS:Value→Nat
 |.slice _ n _=>n
 |_=>0
def IsW (L:Nat):Prop:=∀ (set:Bool) (v:Value) (l:List Nat) (w:World),Bytes w v l→l.length≤1099511620000 →
 Calls Tryz.prog 93 #[v,.int .i64 (L:Int),.bool set] w fun e w'=>e=WhR (De.whole L set l)∧w.grownBy w' none
theorem whole_step (L:Nat) (hL:L≤16) (IH:∀ K,L=K+1→IsW K):IsW L:=by
 intro set v l w hB hl
 obtain ⟨R,hR⟩:∃ R,R=Tl.loop (Tl.within L) (decide (L=0)) set l.length l [] 0:=⟨_,rfl⟩
 have HX:Hid (De.whole L set l=R):=hid (by rw[hR];rfl)
 have HRR:=hid hR
 have HB:=hid hB
 have HIH:=hid IH
 have hlt:=hB.lt
 obtain ⟨_,va,vsb,vso,vc,rfl,_⟩:=hB
 obtain ⟨n,hn⟩:∃ n,n=l.length:=⟨_,rfl⟩
 have HN:=hid hn
 rw[←hn] at HB hl ⊢
 clear hR IH hn hlt
 go_enter Tryz.func93,Tryz.ntmps93
 go_wp2
 go_loopw [0,8,9] (fun b d ah wr=>∃ (dn f:Nat) (al bl:List Nat) (aa:Option Addr) (am ac:Nat) (ba:Option Addr) (bm bc:Nat),d=.int .i64 dn∧dn≤L∧ah=.slice aa am ac∧b=.slice ba bm bc∧Bytes wr (.slice aa am ac) al∧Bytes wr (.slice ba bm bc) bl ∧
  bl.length≤f∧bl.length≤1099511620000∧Tl.loop (Tl.within L) (decide (L=0)) set f bl al dn=R∧w.grownBy wr none) (fun b _ _ _=>lenS b)
 case atStart =>
  exact ⟨0,l.length,[],l,_,0,0,va,n,vc,rfl,Nat.zero_le _,rfl,rfl,⟨by simp,_,0,0,0,rfl,Nat.le_refl _,fun h=>absurd h (Nat.lt_irrefl _),fun j hj=>absurd hj (Nat.not_lt_zero _)⟩,HB.out.grown (World.grownBy_alloc _ _ _),Nat.le_refl _,by rw[←HN.out];exact hl,HRR.out.symm,World.grownBy_alloc _ _ _⟩
 case round =>
  obtain ⟨dn,f,al,bl,aa,am,ac,ba,bm,bc,rfl,hdn,rfl,rfl,hAl,hBl,hf,hbl,hloop,hgr⟩:=hrel
  have hbm:=hBl.cap.1
  have hbc:=hBl.cap.2
  have HAl:=hid hAl
  have HBl:=hid hBl
  have HLo:=hid hloop
  have HGr:=hid hgr
  clear hAl hBl hloop hgr
  by_cases hb0:bm=0
  ·subst hb0
   have hbl0:bl=[]:=List.eq_nil_of_length_eq_zero hbm.symm
   have HR:Hid (R=.ok dn):=hid (by rw[←HLo.out,hbl0];cases f <;> simp[Tl.loop])
   clear hf hbl hbm hbl0
   go_wp2
   go_ret2
   exact ⟨by rw[HX.out,HR.out];rfl,HGr.out⟩
  ·obtain ⟨f',rfl⟩:∃ f',f=f'+1:=⟨f-1,by omega⟩
   have hne:¬ bl=[]:=fun h=>hb0 (by rw[hbm,h];rfl)
   have HF:=hid (refNext_any _ bl wr HBl.out (by omega))
   have hbmx:bm≤1099511620000:=by omega
   have HBM:=hid hbm
   have HFL:=hid hf
   clear hbm hf hbl
   have d0:decide ((0:Int)<(bm:Int))=true:=decide_eq_true (by omega)
   cases hfst:Tl.first bl with
   |error k =>
    have HR:Hid (R=.error k):=hid (by rw[←HLo.out,Tl.loop,if_neg hne,hfst])
    rw[hfst] at HF
    have hk0:=De.first_err hfst
    have hkb:((k:Int) != 0)=true:=by simp;omega
    clear hfst hne
    go_wp2_with (go_at_call 92;refine HF.out.mono ?_;unfold NxR;rintro e w2 ⟨rfl,hg2⟩;have HG2:=hid hg2;clear hg2)
    go_ret2
    exact ⟨by rw[HX.out,HR.out];rfl,grown_trans HGr.out HG2.out⟩
   |ok p =>
    obtain ⟨t',i,n'⟩:=p
    have hlt8:=HBl.out.lt
    obtain ⟨_,hn5,hle,hbl2,_⟩:=De.first_inv hlt8 hfst
    have hi2:=Tl.first_two hfst
    obtain ⟨q,hq⟩:∃ q,q=i+n':=⟨_,rfl⟩
    have HQ:=hid hq
    have hqb:q≤bm:=by rw[HBM.out,hq];exact hle
    have hqi:i+n'=q:=hq.symm
    have HL1:Hid (R=if decide (L=0) then .error 6 else match Tl.within L t' ((bl.drop i).take n') with
      |.error e=>.error e
      |.ok m=>if set&&decide (Tl.cmpB (bl.take q) al<0) then .error 7 else Tl.loop (Tl.within L) (decide (L=0)) set f' (bl.drop q) (bl.take q) (max dn m)):=hid (by
     rw[←HLo.out,Tl.loop,if_neg hne,hfst,HQ.out]
     rfl)
    rw[hfst] at HF
    have HF2:Hid (Calls Tryz.prog 92 #[.slice ba bm bc] wr fun e w'=>e=.returned (.tuple #[.int .i64 (t':Int),.int .i64 (i:Int),.int .i64 (q:Int),.int .i64 0])∧wr.grownBy w' none):=hid (by rw[HQ.out];exact HF.out)
    have HMd:=hid (fun W=>refMade_any (t':Int) W)
    have HBd:Hid (Bytes wr (.slice (subA ba i bc) (q-i) (bc-i)) ((bl.drop i).take n')):=hid (by rw[show q-i=n' by omega];exact (HBl.out.from i (by omega)).to n' (by omega))
    have HBt:Hid (Bytes wr (.slice ba q bc) (bl.take q)):=hid (HBl.out.to q (by omega))
    have HBr:Hid (Bytes wr (.slice (subA ba q bc) (bm-q) (bc-q)) (bl.drop q)):=hid (HBl.out.from q (by omega))
    have hqn:q-i=n':=by omega
    have hiq:i≤q:=by omega
    have hqc:q≤bc:=by omega
    have HI2:=hid hi2
    have HHi:=hid hqi
    clear hqn
    clear hfst hne hle hbl2 HF hlt8 hq
    by_cases hL0:L=0
    ·subst hL0
     have HR:Hid (R=.error 6):=hid (by rw[HL1.out];rfl)
     clear HL1 HIH
     go_wp2_with (go_at_call 92;refine HF2.out.mono ?_;rintro e w2 ⟨rfl,hg2⟩;have HG2:=hid (grown_trans HGr.out hg2);have HG3:=hid hg2;clear hg2)
     go_ret2
     exact ⟨by rw[HX.out,HR.out];rfl,HG2.out⟩
    ·obtain ⟨K,rfl⟩:∃ K,L=K+1:=⟨L-1,by omega⟩
     have HK:=hid (HIH.out K rfl)
     have dL:decide (((K:Nat)+1:Int)<1)=false:=decide_eq_false (by omega)
     rw[De.within_whole] at HL1
     have HL2:Hid (R=match (if Tl.made t'=true then (match De.whole K (decide (t'=49)) ((bl.drop i).take n') with | .error e=>(.error e:Except Nat Nat) | .ok d=>.ok (1+d)) else .ok 1) with
       |.error e=>.error e
       |.ok m=>if set&&decide (Tl.cmpB (bl.take q) al<0) then .error 7 else Tl.loop (Tl.within (K+1)) (decide (K+1=0)) set f' (bl.drop q) (bl.take q) (max dn m)):=hid (by rw[HL1.out];rfl)
     clear HL1 HIH
     have hcx:=De.cmp_lex HBt.out.lt HAl.out.lt
     have hlex:=str_less (strOf (bl.take q)) (strOf al)
     rw[strL_strOf HBt.out.lt,strL_strOf HAl.out.lt,←hcx] at hlex
     have HLex:=hid hlex
     have HC:=hid (fun W x B (hx:Bytes W x B)=>conv_bytes (P:=Tryz.prog) hx 33 5 9 Tryz.underlying33 Tryz.underlying5 Tryz.underlying9)
     clear hcx hlex
     cases hm:Tl.made (t':Int) with
     |false =>
      have HL3:Hid (R=if set&&decide (Tl.cmpB (bl.take q) al<0) then .error 7 else Tl.loop (Tl.within (K+1)) (decide (K+1=0)) set f' (bl.drop q) (bl.take q) (max dn 1)):=hid (by rw[HL2.out,hm];rfl)
      rw[hm] at HMd
      clear HL2 hm
      obtain ⟨less,hless⟩:∃ less,less=decide (Tl.cmpB (bl.take q) al<0):=⟨_,rfl⟩
      rw[←hless] at HL3 HLex
      clear hless
      cases set with
      |false =>
       have HR:Hid (Tl.loop (Tl.within (K+1)) (decide (K+1=0)) false f' (bl.drop q) (bl.take q) (max dn 1)=R):=hid (by rw[HL3.out];rfl)
       clear HL3
       by_cases hmx:dn<1
       ·have dm:decide ((dn:Int)<1)=true:=decide_eq_true (by omega)
        go_wp2_with (first|(go_at_call 92;refine HF2.out.mono ?_;rintro e w4 ⟨rfl,hg2⟩;have HG2:=hid (grown_trans HGr.out hg2);have HG3:=hid hg2;have HG4:=hid hg2;clear hg2)|(go_at_call 55;refine (HMd.out _).mono ?_;rintro e wm ⟨rfl,hwm⟩;have hwm':=hwm.symm;subst hwm';clear hwm))
        all_goals
         go_quiet (fail)
         go_wp2
         go_roundw
         case rel=>first|exact ⟨1,f',bl.take q,bl.drop q,_,_,_,_,_,_,rfl,by omega,rfl,rfl,HBt.out.grown (grown_drewN HG4.out _),HBr.out.grown (grown_drewN HG4.out _),by rw[List.length_drop,←HBM.out];have:=HI2.out;have:=HHi.out;have:=HFL.out;have:=HBM.out;omega,by rw[List.length_drop,←HBM.out];omega,(by have h:=HR.out;rw[show max dn 1=1 by omega] at h;simpa using h),grown_trans HGr.out (grown_drewN HG4.out _)⟩|((repeat apply Exists.intro);refine ⟨⟨1,f',bl.take q,bl.drop q,_,_,_,_,_,_,rfl,by omega,rfl,rfl,HBt.out.grown (grown_drewN HG4.out _),HBr.out.grown (grown_drewN HG4.out _),by rw[List.length_drop,←HBM.out];have:=HI2.out;have:=HHi.out;have:=HFL.out;have:=HBM.out;omega,by rw[List.length_drop,←HBM.out];omega,(by have h:=HR.out;rw[show max dn 1=1 by omega] at h;simpa using h),grown_trans HGr.out (grown_drewN HG4.out _)⟩,?_⟩;and_intros <;> rfl)
         case measure=>have:=HI2.out;have:=HHi.out;simp[lenS];omega
       ·have dm:decide ((dn:Int)<1)=false:=decide_eq_false (by omega)
        go_wp2_with (first|(go_at_call 92;refine HF2.out.mono ?_;rintro e w4 ⟨rfl,hg2⟩;have HG2:=hid (grown_trans HGr.out hg2);have HG3:=hid hg2;have HG4:=hid hg2;clear hg2)|(go_at_call 55;refine (HMd.out _).mono ?_;rintro e wm ⟨rfl,hwm⟩;have hwm':=hwm.symm;subst hwm';clear hwm))
        all_goals
         go_quiet (fail)
         go_wp2
         go_roundw
         case rel=>first|exact ⟨dn,f',bl.take q,bl.drop q,_,_,_,_,_,_,rfl,by omega,rfl,rfl,HBt.out.grown (grown_drewN HG4.out _),HBr.out.grown (grown_drewN HG4.out _),by rw[List.length_drop,←HBM.out];have:=HI2.out;have:=HHi.out;have:=HFL.out;have:=HBM.out;omega,by rw[List.length_drop,←HBM.out];omega,(by have h:=HR.out;rw[show max dn 1=dn by omega] at h;simpa using h),grown_trans HGr.out (grown_drewN HG4.out _)⟩|((repeat apply Exists.intro);refine ⟨⟨dn,f',bl.take q,bl.drop q,_,_,_,_,_,_,rfl,by omega,rfl,rfl,HBt.out.grown (grown_drewN HG4.out _),HBr.out.grown (grown_drewN HG4.out _),by rw[List.length_drop,←HBM.out];have:=HI2.out;have:=HHi.out;have:=HFL.out;have:=HBM.out;omega,by rw[List.length_drop,←HBM.out];omega,(by have h:=HR.out;rw[show max dn 1=dn by omega] at h;simpa using h),grown_trans HGr.out (grown_drewN HG4.out _)⟩,?_⟩;and_intros <;> rfl)
         case measure=>have:=HI2.out;have:=HHi.out;simp[lenS];omega
      |true =>
       cases less with
       |true =>
        have HR:Hid (R=.error 7):=hid (by rw[HL3.out];rfl)
        clear HL3
        go_wp2_with (first|(go_at_call 92;refine HF2.out.mono ?_;rintro e w4 ⟨rfl,hg2⟩;have HG2:=hid (grown_trans HGr.out hg2);have HG3:=hid hg2;have HG4:=hid hg2;clear hg2)|(go_at_call 55;refine (HMd.out _).mono ?_;rintro e wm ⟨rfl,hwm⟩;have hwm':=hwm.symm;subst hwm';clear hwm))
        all_goals
         have c1:∀ m,(convert 33 9 (.slice ba q bc)).run Tryz.prog (w4.drewN m)=.ok (.string (strOf (bl.take q))) (w4.drewN m):=fun m=>HC.out _ _ _ (HBt.out.grown (grown_drewN HG4.out m))
         have c2:∀ m,(convert 33 9 (.slice aa am ac)).run Tryz.prog (w4.drewN m)=.ok (.string (strOf al)) (w4.drewN m):=fun m=>HC.out _ _ _ (HAl.out.grown (grown_drewN HG4.out m))
         generalize strOf (bl.take q)=s1 at *
         generalize strOf al=s2 at *
         go_quiet (fail)
         simp only[HLex.out]
         go_wp2
         go_ret2
         exact ⟨by rw[HX.out,HR.out];rfl,grown_trans HGr.out (grown_drewN HG4.out _)⟩
       |false =>
        have HR:Hid (Tl.loop (Tl.within (K+1)) (decide (K+1=0)) true f' (bl.drop q) (bl.take q) (max dn 1)=R):=hid (by rw[HL3.out];rfl)
        clear HL3
        by_cases hmx:dn<1
        ·have dm:decide ((dn:Int)<1)=true:=decide_eq_true (by omega)
         go_wp2_with (first|(go_at_call 92;refine HF2.out.mono ?_;rintro e w4 ⟨rfl,hg2⟩;have HG2:=hid (grown_trans HGr.out hg2);have HG3:=hid hg2;have HG4:=hid hg2;clear hg2)|(go_at_call 55;refine (HMd.out _).mono ?_;rintro e wm ⟨rfl,hwm⟩;have hwm':=hwm.symm;subst hwm';clear hwm))
         all_goals
          have c1:∀ m,(convert 33 9 (.slice ba q bc)).run Tryz.prog (w4.drewN m)=.ok (.string (strOf (bl.take q))) (w4.drewN m):=fun m=>HC.out _ _ _ (HBt.out.grown (grown_drewN HG4.out m))
          have c2:∀ m,(convert 33 9 (.slice aa am ac)).run Tryz.prog (w4.drewN m)=.ok (.string (strOf al)) (w4.drewN m):=fun m=>HC.out _ _ _ (HAl.out.grown (grown_drewN HG4.out m))
          generalize strOf (bl.take q)=s1 at *
          generalize strOf al=s2 at *
          go_quiet (fail)
          simp only[HLex.out]
          go_wp2
          go_roundw
          case rel=>first|exact ⟨1,f',bl.take q,bl.drop q,_,_,_,_,_,_,rfl,by omega,rfl,rfl,HBt.out.grown (grown_drewN HG4.out _),HBr.out.grown (grown_drewN HG4.out _),by rw[List.length_drop,←HBM.out];have:=HI2.out;have:=HHi.out;have:=HFL.out;have:=HBM.out;omega,by rw[List.length_drop,←HBM.out];omega,(by have h:=HR.out;rw[show max dn 1=1 by omega] at h;simpa using h),grown_trans HGr.out (grown_drewN HG4.out _)⟩|((repeat apply Exists.intro);refine ⟨⟨1,f',bl.take q,bl.drop q,_,_,_,_,_,_,rfl,by omega,rfl,rfl,HBt.out.grown (grown_drewN HG4.out _),HBr.out.grown (grown_drewN HG4.out _),by rw[List.length_drop,←HBM.out];have:=HI2.out;have:=HHi.out;have:=HFL.out;have:=HBM.out;omega,by rw[List.length_drop,←HBM.out];omega,(by have h:=HR.out;rw[show max dn 1=1 by omega] at h;simpa using h),grown_trans HGr.out (grown_drewN HG4.out _)⟩,?_⟩;and_intros <;> rfl)
          case measure=>have:=HI2.out;have:=HHi.out;simp[lenS];omega
        ·have dm:decide ((dn:Int)<1)=false:=decide_eq_false (by omega)
         go_wp2_with (first|(go_at_call 92;refine HF2.out.mono ?_;rintro e w4 ⟨rfl,hg2⟩;have HG2:=hid (grown_trans HGr.out hg2);have HG3:=hid hg2;have HG4:=hid hg2;clear hg2)|(go_at_call 55;refine (HMd.out _).mono ?_;rintro e wm ⟨rfl,hwm⟩;have hwm':=hwm.symm;subst hwm';clear hwm))
         all_goals
          have c1:∀ m,(convert 33 9 (.slice ba q bc)).run Tryz.prog (w4.drewN m)=.ok (.string (strOf (bl.take q))) (w4.drewN m):=fun m=>HC.out _ _ _ (HBt.out.grown (grown_drewN HG4.out m))
          have c2:∀ m,(convert 33 9 (.slice aa am ac)).run Tryz.prog (w4.drewN m)=.ok (.string (strOf al)) (w4.drewN m):=fun m=>HC.out _ _ _ (HAl.out.grown (grown_drewN HG4.out m))
          generalize strOf (bl.take q)=s1 at *
          generalize strOf al=s2 at *
          go_quiet (fail)
          simp only[HLex.out]
          go_wp2
          go_roundw
          case rel=>first|exact ⟨dn,f',bl.take q,bl.drop q,_,_,_,_,_,_,rfl,by omega,rfl,rfl,HBt.out.grown (grown_drewN HG4.out _),HBr.out.grown (grown_drewN HG4.out _),by rw[List.length_drop,←HBM.out];have:=HI2.out;have:=HHi.out;have:=HFL.out;have:=HBM.out;omega,by rw[List.length_drop,←HBM.out];omega,(by have h:=HR.out;rw[show max dn 1=dn by omega] at h;simpa using h),grown_trans HGr.out (grown_drewN HG4.out _)⟩|((repeat apply Exists.intro);refine ⟨⟨dn,f',bl.take q,bl.drop q,_,_,_,_,_,_,rfl,by omega,rfl,rfl,HBt.out.grown (grown_drewN HG4.out _),HBr.out.grown (grown_drewN HG4.out _),by rw[List.length_drop,←HBM.out];have:=HI2.out;have:=HHi.out;have:=HFL.out;have:=HBM.out;omega,by rw[List.length_drop,←HBM.out];omega,(by have h:=HR.out;rw[show max dn 1=dn by omega] at h;simpa using h),grown_trans HGr.out (grown_drewN HG4.out _)⟩,?_⟩;and_intros <;> rfl)
          case measure=>have:=HI2.out;have:=HHi.out;simp[lenS];omega
     |true =>
      rw[hm] at HMd HL2
      have e49:((t':Int)==49)=decide (t'=49):=by rw[Bool.eq_iff_iff];simp;omega
      obtain ⟨r',hr'⟩:∃ r',r'=De.whole K (decide (t'=49)) ((bl.drop i).take n'):=⟨_,rfl⟩
      have HI:Hid (∀ W,wr.grownBy W none→Calls Tryz.prog 93 #[.slice (subA ba i bc) (q-i) (bc-i),.int .i64 (K:Int),.bool ((t':Int)==49)] W fun e w'=>e=WhR r'∧W.grownBy w' none):=hid (fun W hW=>by
       rw[hr',e49]
       exact HK.out _ _ _ W (HBd.out.grown hW) (by rw[List.length_take,List.length_drop,←HBM.out];omega))
      have hle2:=fun m (h:r'=.ok m)=>De.whole_le (hr' ▸ h)
      have her2:=fun k (h:r'=.error k)=>De.whole_err (hr' ▸ h)
      rw[←hr'] at HL2
      clear hr' hm HK e49
      cases r' with
      |error k =>
       have HR:Hid (R=.error k):=hid (by rw[HL2.out];rfl)
       have HI3:Hid (∀ W,wr.grownBy W none→Calls Tryz.prog 93 #[.slice (subA ba i bc) (q-i) (bc-i),.int .i64 (K:Int),.bool ((t':Int)==49)] W fun e w'=>e=.returned (.tuple #[.int .i64 0,.int .i64 (k:Int)])∧W.grownBy w' none):=hid (fun W hW=>HI.out W hW)
       have hkb:((k:Int) != 0)=true:=by have:=her2 k rfl;simp;omega
       clear HL2
       go_wp2_with (first|(go_at_call 92;refine HF2.out.mono ?_;rintro e w2 ⟨rfl,hg2⟩;have HG2:=hid (grown_trans HGr.out hg2);have HG3:=hid hg2;clear hg2)|(go_at_call 55;refine (HMd.out _).mono ?_;rintro e w3 ⟨rfl,hw3⟩;have hw3':=hw3.symm;subst hw3';clear hw3)|(go_at_call 93;refine (HI3.out _ HG3.out).mono ?_;rintro e w4 ⟨rfl,hg4⟩;have HG4:=hid (grown_trans HG3.out hg4);clear hg4))
       all_goals
        go_ret2
        exact ⟨by rw[HX.out,HR.out];rfl,grown_trans HGr.out HG4.out⟩
      |ok mm =>
       have hmm:=hle2 mm rfl
       have HL3:Hid (R=if set&&decide (Tl.cmpB (bl.take q) al<0) then .error 7 else Tl.loop (Tl.within (K+1)) (decide (K+1=0)) set f' (bl.drop q) (bl.take q) (max dn (1+mm))):=hid (by rw[HL2.out];rfl)
       have HI3:Hid (∀ W,wr.grownBy W none→Calls Tryz.prog 93 #[.slice (subA ba i bc) (q-i) (bc-i),.int .i64 (K:Int),.bool ((t':Int)==49)] W fun e w'=>e=.returned (.tuple #[.int .i64 (mm:Int),.int .i64 0])∧W.grownBy w' none):=hid (fun W hW=>HI.out W hW)
       clear HL2 hle2 her2
       obtain ⟨less,hless⟩:∃ less,less=decide (Tl.cmpB (bl.take q) al<0):=⟨_,rfl⟩
       rw[←hless] at HL3 HLex
       clear hless
       cases set with
       |false =>
        have HR:Hid (Tl.loop (Tl.within (K+1)) (decide (K+1=0)) false f' (bl.drop q) (bl.take q) (max dn (1+mm))=R):=hid (by rw[HL3.out];rfl)
        clear HL3
        by_cases hmx:dn<(1+mm)
        ·have dm:decide ((dn:Int)<1+(mm:Int))=true:=decide_eq_true (by omega)
         go_wp2_with (first|(go_at_call 92;refine HF2.out.mono ?_;rintro e w2 ⟨rfl,hg2⟩;have HG2:=hid (grown_trans HGr.out hg2);have HG3:=hid hg2;clear hg2)|(go_at_call 55;refine (HMd.out _).mono ?_;rintro e w3 ⟨rfl,hw3⟩;have hw3':=hw3.symm;subst hw3';clear hw3)|(go_at_call 93;refine (HI3.out _ HG3.out).mono ?_;rintro e w4 ⟨rfl,hg4⟩;have HG4:=hid (grown_trans HG3.out hg4);clear hg4))
         all_goals
          go_quiet (fail)
          go_wp2
          go_roundw
          case rel=>first|(refine ⟨(1+mm),f',bl.take q,bl.drop q,_,_,_,_,_,_,?_,by omega,rfl,rfl,HBt.out.grown (grown_drewN HG4.out _),HBr.out.grown (grown_drewN HG4.out _),by rw[List.length_drop,←HBM.out];have:=HI2.out;have:=HHi.out;have:=HFL.out;have:=HBM.out;omega,by rw[List.length_drop,←HBM.out];omega,(by have h:=HR.out;rw[show max dn (1+mm)=(1+mm) by omega] at h;simpa using h),grown_trans HGr.out (grown_drewN HG4.out _)⟩;refine congrArg (Value.int IntKind.i64) ?_;omega)|((repeat apply Exists.intro);refine ⟨⟨(1+mm),f',bl.take q,bl.drop q,_,_,_,_,_,_,?_,by omega,rfl,rfl,HBt.out.grown (grown_drewN HG4.out _),HBr.out.grown (grown_drewN HG4.out _),by rw[List.length_drop,←HBM.out];have:=HI2.out;have:=HHi.out;have:=HFL.out;have:=HBM.out;omega,by rw[List.length_drop,←HBM.out];omega,(by have h:=HR.out;rw[show max dn (1+mm)=(1+mm) by omega] at h;simpa using h),grown_trans HGr.out (grown_drewN HG4.out _)⟩,?_⟩;rotate_left;(and_intros <;> rfl);(refine congrArg (Value.int IntKind.i64) ?_;omega))
          case measure=>have:=HI2.out;have:=HHi.out;simp[lenS];omega
        ·have dm:decide ((dn:Int)<1+(mm:Int))=false:=decide_eq_false (by omega)
         go_wp2_with (first|(go_at_call 92;refine HF2.out.mono ?_;rintro e w2 ⟨rfl,hg2⟩;have HG2:=hid (grown_trans HGr.out hg2);have HG3:=hid hg2;clear hg2)|(go_at_call 55;refine (HMd.out _).mono ?_;rintro e w3 ⟨rfl,hw3⟩;have hw3':=hw3.symm;subst hw3';clear hw3)|(go_at_call 93;refine (HI3.out _ HG3.out).mono ?_;rintro e w4 ⟨rfl,hg4⟩;have HG4:=hid (grown_trans HG3.out hg4);clear hg4))
         all_goals
          go_quiet (fail)
          go_wp2
          go_roundw
          case rel=>first|exact ⟨dn,f',bl.take q,bl.drop q,_,_,_,_,_,_,rfl,by omega,rfl,rfl,HBt.out.grown (grown_drewN HG4.out _),HBr.out.grown (grown_drewN HG4.out _),by rw[List.length_drop,←HBM.out];have:=HI2.out;have:=HHi.out;have:=HFL.out;have:=HBM.out;omega,by rw[List.length_drop,←HBM.out];omega,(by have h:=HR.out;rw[show max dn (1+mm)=dn by omega] at h;simpa using h),grown_trans HGr.out (grown_drewN HG4.out _)⟩|((repeat apply Exists.intro);refine ⟨⟨dn,f',bl.take q,bl.drop q,_,_,_,_,_,_,rfl,by omega,rfl,rfl,HBt.out.grown (grown_drewN HG4.out _),HBr.out.grown (grown_drewN HG4.out _),by rw[List.length_drop,←HBM.out];have:=HI2.out;have:=HHi.out;have:=HFL.out;have:=HBM.out;omega,by rw[List.length_drop,←HBM.out];omega,(by have h:=HR.out;rw[show max dn (1+mm)=dn by omega] at h;simpa using h),grown_trans HGr.out (grown_drewN HG4.out _)⟩,?_⟩;and_intros <;> rfl)
          case measure=>have:=HI2.out;have:=HHi.out;simp[lenS];omega
       |true =>
        cases less with
        |true =>
         have HR:Hid (R=.error 7):=hid (by rw[HL3.out];rfl)
         clear HL3
         go_wp2_with (first|(go_at_call 92;refine HF2.out.mono ?_;rintro e w2 ⟨rfl,hg2⟩;have HG2:=hid (grown_trans HGr.out hg2);have HG3:=hid hg2;clear hg2)|(go_at_call 55;refine (HMd.out _).mono ?_;rintro e w3 ⟨rfl,hw3⟩;have hw3':=hw3.symm;subst hw3';clear hw3)|(go_at_call 93;refine (HI3.out _ HG3.out).mono ?_;rintro e w4 ⟨rfl,hg4⟩;have HG4:=hid (grown_trans HG3.out hg4);clear hg4))
         all_goals
          have c1:∀ m,(convert 33 9 (.slice ba q bc)).run Tryz.prog (w4.drewN m)=.ok (.string (strOf (bl.take q))) (w4.drewN m):=fun m=>HC.out _ _ _ (HBt.out.grown (grown_drewN HG4.out m))
          have c2:∀ m,(convert 33 9 (.slice aa am ac)).run Tryz.prog (w4.drewN m)=.ok (.string (strOf al)) (w4.drewN m):=fun m=>HC.out _ _ _ (HAl.out.grown (grown_drewN HG4.out m))
          generalize strOf (bl.take q)=s1 at *
          generalize strOf al=s2 at *
          go_quiet (fail)
          simp only[HLex.out]
          go_wp2
          go_ret2
          exact ⟨by rw[HX.out,HR.out];rfl,grown_trans HGr.out (grown_drewN HG4.out _)⟩
        |false =>
         have HR:Hid (Tl.loop (Tl.within (K+1)) (decide (K+1=0)) true f' (bl.drop q) (bl.take q) (max dn (1+mm))=R):=hid (by rw[HL3.out];rfl)
         clear HL3
         by_cases hmx:dn<(1+mm)
         ·have dm:decide ((dn:Int)<1+(mm:Int))=true:=decide_eq_true (by omega)
          go_wp2_with (first|(go_at_call 92;refine HF2.out.mono ?_;rintro e w2 ⟨rfl,hg2⟩;have HG2:=hid (grown_trans HGr.out hg2);have HG3:=hid hg2;clear hg2)|(go_at_call 55;refine (HMd.out _).mono ?_;rintro e w3 ⟨rfl,hw3⟩;have hw3':=hw3.symm;subst hw3';clear hw3)|(go_at_call 93;refine (HI3.out _ HG3.out).mono ?_;rintro e w4 ⟨rfl,hg4⟩;have HG4:=hid (grown_trans HG3.out hg4);clear hg4))
          all_goals
           have c1:∀ m,(convert 33 9 (.slice ba q bc)).run Tryz.prog (w4.drewN m)=.ok (.string (strOf (bl.take q))) (w4.drewN m):=fun m=>HC.out _ _ _ (HBt.out.grown (grown_drewN HG4.out m))
           have c2:∀ m,(convert 33 9 (.slice aa am ac)).run Tryz.prog (w4.drewN m)=.ok (.string (strOf al)) (w4.drewN m):=fun m=>HC.out _ _ _ (HAl.out.grown (grown_drewN HG4.out m))
           generalize strOf (bl.take q)=s1 at *
           generalize strOf al=s2 at *
           go_quiet (fail)
           simp only[HLex.out]
           go_wp2
           go_roundw
           case rel=>first|(refine ⟨(1+mm),f',bl.take q,bl.drop q,_,_,_,_,_,_,?_,by omega,rfl,rfl,HBt.out.grown (grown_drewN HG4.out _),HBr.out.grown (grown_drewN HG4.out _),by rw[List.length_drop,←HBM.out];have:=HI2.out;have:=HHi.out;have:=HFL.out;have:=HBM.out;omega,by rw[List.length_drop,←HBM.out];omega,(by have h:=HR.out;rw[show max dn (1+mm)=(1+mm) by omega] at h;simpa using h),grown_trans HGr.out (grown_drewN HG4.out _)⟩;refine congrArg (Value.int IntKind.i64) ?_;omega)|((repeat apply Exists.intro);refine ⟨⟨(1+mm),f',bl.take q,bl.drop q,_,_,_,_,_,_,?_,by omega,rfl,rfl,HBt.out.grown (grown_drewN HG4.out _),HBr.out.grown (grown_drewN HG4.out _),by rw[List.length_drop,←HBM.out];have:=HI2.out;have:=HHi.out;have:=HFL.out;have:=HBM.out;omega,by rw[List.length_drop,←HBM.out];omega,(by have h:=HR.out;rw[show max dn (1+mm)=(1+mm) by omega] at h;simpa using h),grown_trans HGr.out (grown_drewN HG4.out _)⟩,?_⟩;rotate_left;(and_intros <;> rfl);(refine congrArg (Value.int IntKind.i64) ?_;omega))
           case measure=>have:=HI2.out;have:=HHi.out;simp[lenS];omega
         ·have dm:decide ((dn:Int)<1+(mm:Int))=false:=decide_eq_false (by omega)
          go_wp2_with (first|(go_at_call 92;refine HF2.out.mono ?_;rintro e w2 ⟨rfl,hg2⟩;have HG2:=hid (grown_trans HGr.out hg2);have HG3:=hid hg2;clear hg2)|(go_at_call 55;refine (HMd.out _).mono ?_;rintro e w3 ⟨rfl,hw3⟩;have hw3':=hw3.symm;subst hw3';clear hw3)|(go_at_call 93;refine (HI3.out _ HG3.out).mono ?_;rintro e w4 ⟨rfl,hg4⟩;have HG4:=hid (grown_trans HG3.out hg4);clear hg4))
          all_goals
           have c1:∀ m,(convert 33 9 (.slice ba q bc)).run Tryz.prog (w4.drewN m)=.ok (.string (strOf (bl.take q))) (w4.drewN m):=fun m=>HC.out _ _ _ (HBt.out.grown (grown_drewN HG4.out m))
           have c2:∀ m,(convert 33 9 (.slice aa am ac)).run Tryz.prog (w4.drewN m)=.ok (.string (strOf al)) (w4.drewN m):=fun m=>HC.out _ _ _ (HAl.out.grown (grown_drewN HG4.out m))
           generalize strOf (bl.take q)=s1 at *
           generalize strOf al=s2 at *
           go_quiet (fail)
           simp only[HLex.out]
           go_wp2
           go_roundw
           case rel=>first|exact ⟨dn,f',bl.take q,bl.drop q,_,_,_,_,_,_,rfl,by omega,rfl,rfl,HBt.out.grown (grown_drewN HG4.out _),HBr.out.grown (grown_drewN HG4.out _),by rw[List.length_drop,←HBM.out];have:=HI2.out;have:=HHi.out;have:=HFL.out;have:=HBM.out;omega,by rw[List.length_drop,←HBM.out];omega,(by have h:=HR.out;rw[show max dn (1+mm)=dn by omega] at h;simpa using h),grown_trans HGr.out (grown_drewN HG4.out _)⟩|((repeat apply Exists.intro);refine ⟨⟨dn,f',bl.take q,bl.drop q,_,_,_,_,_,_,rfl,by omega,rfl,rfl,HBt.out.grown (grown_drewN HG4.out _),HBr.out.grown (grown_drewN HG4.out _),by rw[List.length_drop,←HBM.out];have:=HI2.out;have:=HHi.out;have:=HFL.out;have:=HBM.out;omega,by rw[List.length_drop,←HBM.out];omega,(by have h:=HR.out;rw[show max dn (1+mm)=dn by omega] at h;simpa using h),grown_trans HGr.out (grown_drewN HG4.out _)⟩,?_⟩;and_intros <;> rfl)
           case measure=>have:=HI2.out;have:=HHi.out;simp[lenS];omega
theorem refWhole_any:∀ (L:Nat),L≤16→IsW L
 |0,h=>whole_step 0 h (fun K e=>absurd e (by omega))
 |L+1,h=>whole_step (L+1) h (fun K e=>by
   obtain rfl:L=K:=by omega
   exact refWhole_any L (by omega))
theorem refCheck_any (v:Value) (l:List Nat) (w:World) (hB:Bytes w v l) (hl:l.length≤1099511620000) :
  Calls Tryz.prog 58 #[v] w fun e w'=>e=WhR (Tl.levels l)∧w.grownBy w' none:=by
 have hlt:=hB.lt
 rw[←De.check_levels l hlt]
 have HB:=hid hB
 obtain ⟨_,va,vsb,vso,vc,rfl,_⟩:=hB
 obtain ⟨n,hn⟩:∃ n,n=l.length:=⟨_,rfl⟩
 have HN:=hid hn
 rw[←hn] at HB hl ⊢
 have HF:=hid (refNext_any _ l w HB.out (by rw[←hn];omega))
 have HW:=hid (fun W (hW:w.grownBy W none)=>refWhole_any 16 (by decide) false _ l W (HB.out.grown hW) (by rw[←hn];exact hl))
 by_cases h1:65536<n
 ·have HX:Hid (De.check l=.error 3):=hid (by unfold De.check;rw[if_pos (by rw[←HN.out];exact h1)])
  clear hn
  go_enter Tryz.func58,Tryz.ntmps58
  go_wp2
  go_ret2
  exact ⟨by rw[HX.out];rfl,grown_refl _ _⟩
 ·have HX0:Hid (De.check l=match Tl.first l with
   |.error e=>.error e
   |.ok (_,i,m)=>if i+m<n then .error 4 else De.whole 16 false l):=hid (by unfold De.check;rw[if_neg (by rw[←HN.out];exact h1),←HN.out];try rfl)
  clear hn
  cases hf:Tl.first l with
  |error k =>
   have HX:Hid (De.check l=.error k):=hid (by rw[HX0.out,hf])
   have hk0:=De.first_err hf
   have hkb:((k:Int) != 0)=true:=by simp;omega
   have HF2:Hid (Calls Tryz.prog 92 #[.slice va n vc] w fun e w'=>e=.returned (.tuple #[.int .i64 0,.int .i64 0,.int .i64 0,.int .i64 (k:Int)])∧w.grownBy w' none):=hid (by have:=HF.out;rw[hf] at this;exact this)
   clear hf HX0 HF
   go_enter Tryz.func58,Tryz.ntmps58
   go_wp2_with (go_at_call 92;refine HF2.out.mono ?_;rintro e w2 ⟨rfl,hg2⟩;have HG2:=hid hg2;clear hg2)
   go_ret2
   exact ⟨by rw[HX.out];rfl,HG2.out⟩
  |ok p =>
   obtain ⟨t,i,m⟩:=p
   obtain ⟨q,hq⟩:∃ q,q=i+m:=⟨_,rfl⟩
   have HF2:Hid (Calls Tryz.prog 92 #[.slice va n vc] w fun e w'=>e=.returned (.tuple #[.int .i64 (t:Int),.int .i64 (i:Int),.int .i64 (q:Int),.int .i64 0])∧w.grownBy w' none):=hid (by have:=HF.out;rw[hf] at this;rw[hq];exact this)
   have HX1:Hid (De.check l=if q<n then .error 4 else De.whole 16 false l):=hid (by rw[HX0.out,hf,hq])
   clear hf HX0 HF hq
   by_cases hqn:q<n
   ·have HX:Hid (De.check l=.error 4):=hid (by rw[HX1.out,if_pos hqn])
    clear HX1
    go_enter Tryz.func58,Tryz.ntmps58
    go_wp2_with (go_at_call 92;refine HF2.out.mono ?_;rintro e w2 ⟨rfl,hg2⟩;have HG2:=hid hg2;clear hg2)
    go_ret2
    exact ⟨by rw[HX.out];rfl,HG2.out⟩
   ·have HX:Hid (De.check l=De.whole 16 false l):=hid (by rw[HX1.out,if_neg hqn])
    clear HX1
    obtain ⟨r,hr⟩:∃ r,r=De.whole 16 false l:=⟨_,rfl⟩
    rw[←hr] at HX HW
    clear hr
    cases r with
    |error k =>
     have HW2:Hid (∀ W,w.grownBy W none→Calls Tryz.prog 93 #[.slice va n vc,.int .i64 16,.bool false] W fun e w'=>e=.returned (.tuple #[.int .i64 0,.int .i64 (k:Int)])∧W.grownBy w' none):=hid (fun W hW=>HW.out W hW)
     clear HW
     go_enter Tryz.func58,Tryz.ntmps58
     go_wp2_with (first
      |(go_at_call 92;refine HF2.out.mono ?_;rintro e w2 ⟨rfl,hg2⟩;have HG2:=hid hg2;clear hg2)
      |(go_at_call 93;refine (HW2.out _ HG2.out).mono ?_;rintro e w3 ⟨rfl,hg3⟩;have HG3:=hid (grown_trans HG2.out hg3);clear hg3))
     go_ret2
     exact ⟨by rw[HX.out];rfl,HG3.out⟩
    |ok d =>
     have HW2:Hid (∀ W,w.grownBy W none→Calls Tryz.prog 93 #[.slice va n vc,.int .i64 16,.bool false] W fun e w'=>e=.returned (.tuple #[.int .i64 (d:Int),.int .i64 0])∧W.grownBy w' none):=hid (fun W hW=>HW.out W hW)
     clear HW
     go_enter Tryz.func58,Tryz.ntmps58
     go_wp2_with (first
      |(go_at_call 92;refine HF2.out.mono ?_;rintro e w2 ⟨rfl,hg2⟩;have HG2:=hid hg2;clear hg2)
      |(go_at_call 93;refine (HW2.out _ HG2.out).mono ?_;rintro e w3 ⟨rfl,hg3⟩;have HG3:=hid (grown_trans HG2.out hg3);clear hg3))
     go_ret2
     exact ⟨by rw[HX.out];rfl,HG3.out⟩
end Go.Proofs.YtijkaknggdaajaaGreatDoor
namespace Go.Proofs.YtijkaknggdaajaaGreatDoor
open Lib (hid)
namespace De
def Seen (k:Nat) (b:List Nat):Prop:=(∀ x∈b,x<256)∧∃ one set f a d m,b.length≤f∧Tl.loop (Tl.within k) one set f b a d=.ok m
theorem seen_first {k:Nat} {b:List Nat} (h:Seen k b) (hb:b≠[]):∃ t i n,Tl.first b=.ok (t,i,n)∧2≤i∧i+n≤b.length∧Tl.known (t:Nat)=true∧n≤65530∧Seen k (b.drop (i+n)) ∧
  b.take (i+n)=Tl.elem t ((b.drop i).take n)∧(Tl.made (t:Nat)=true→1≤k∧Seen (k-1) ((b.drop i).take n)):=by
 obtain ⟨h8,one,set,f,a,d,m,hf,hl⟩:=h
 cases f with
 |zero=>exact absurd (List.length_eq_zero_iff.1 (by omega)) hb
 |succ f =>
  rw[Tl.loop,if_neg hb] at hl
  cases hq:Tl.first b with
  |error e=>rw[hq] at hl;exact absurd hl (by simp)
  |ok p =>
   obtain ⟨t,i,n⟩:=p
   rw[hq] at hl
   obtain ⟨hk,hn,hin,hlen,he⟩:=first_inv h8 hq
   have h2:=Tl.first_two hq
   cases one with
   |true=>exact absurd hl (by simp)
   |false =>
    have hl:(match Tl.within k t ((b.drop i).take n) with
     |.error e=>(Except.error e:Except Nat Nat)
     |.ok m=>if set&&decide (Tl.cmpB (b.take (i+n)) a<0) then .error 7 else Tl.loop (Tl.within k) false set f (b.drop (i+n)) (b.take (i+n)) (max d m))=.ok m:=hl
    cases hw:Tl.within k t ((b.drop i).take n) with
    |error e=>rw[hw] at hl;exact absurd hl (by simp)
    |ok m2 =>
     rw[hw] at hl
     have hl:(if set&&decide (Tl.cmpB (b.take (i+n)) a<0) then .error 7 else Tl.loop (Tl.within k) false set f (b.drop (i+n)) (b.take (i+n)) (max d m2))=(Except.ok m:Except Nat Nat):=hl
     by_cases hs:(set&&decide (Tl.cmpB (b.take (i+n)) a<0))=true
     ·rw[if_pos hs] at hl;exact absurd hl (by simp)
     rw[if_neg hs] at hl
     refine ⟨t,i,n,rfl,h2,hin,hk,hn,⟨fun x hx=>h8 x (List.mem_of_mem_drop hx),_,_,f,_,_,m,?_,hl⟩,he,fun hm=>?_⟩
     ·rw[List.length_drop];omega
     ·cases k with
      |zero=>rw[Tl.within] at hw;exact absurd hw (by simp)
      |succ k =>
       rw[within_whole,if_pos hm] at hw
       cases hq2:whole k (decide (t=49)) ((b.drop i).take n) with
       |error e=>rw[hq2] at hw;exact absurd hw (by simp)
       |ok m3=>exact ⟨by omega,fun x hx=>h8 x (List.mem_of_mem_drop (List.mem_of_mem_take hx)),_,_,_,_,_,m3,Nat.le_refl _,hq2⟩
theorem seen_all:∀ (f k:Nat) (b:List Nat),Seen k b→b.length≤f→∃ ps,all f b=.ok ps
 |0,_,_,_,_=>⟨[],rfl⟩
 |f+1,k,b,h,hf=>by
  by_cases hb:b=[]
  ·exact ⟨[],by rw[all,if_pos hb]⟩
  ·obtain ⟨t,i,n,hq,h2,hin,_,_,hr,_⟩:=seen_first h hb
   obtain ⟨ps,hp⟩:=seen_all f k _ hr (by rw[List.length_drop];omega)
   exact ⟨(t,(b.drop i).take n) :: ps,by rw[all,if_neg hb,hq];show (match all f _ with | .error e=>_ | .ok r=>_)=_;rw[hp]⟩
theorem all_room:∀ (f g k:Nat) (b:List Nat),Seen k b→b.length≤f→b.length≤g→all f b=all g b
 |f,g,k,b,h,hf,hg=>by
  by_cases hb:b=[]
  ·subst hb;cases f <;> cases g <;> simp[all]
  ·obtain ⟨t,i,n,hq,h2,hin,_,_,hr,_⟩:=seen_first h hb
   have hpos:0<b.length:=List.length_pos_iff.2 hb
   obtain ⟨f,rfl⟩:∃ x,f=x+1:=⟨f-1,by omega⟩
   obtain ⟨g,rfl⟩:∃ x,g=x+1:=⟨g-1,by omega⟩
   rw[all,if_neg hb,all,if_neg hb,hq]
   show (match all f _ with | .error e=>_ | .ok r=>_)=(match all g _ with | .error e=>_ | .ok r=>_)
   rw[all_room f g k _ hr (by rw[List.length_drop];omega) (by rw[List.length_drop];omega)]
 termination_by f=>f
def elems (b:List Nat):List (Nat×List Nat):=match all b.length b with
 |.error _=>[]
 |.ok r=>r
theorem elems_nil:elems []=[]:=rfl
theorem elems_all {k:Nat} {b:List Nat} (h:Seen k b):all b.length b=.ok (elems b):=by
 obtain ⟨ps,hp⟩:=seen_all b.length k b h (Nat.le_refl _)
 unfold elems;rw[hp]
theorem elems_cons {k:Nat} {b:List Nat} (h:Seen k b) (hb:b≠[]) {t i n:Nat} (hq:Tl.first b=.ok (t,i,n)):elems b=(t,(b.drop i).take n) :: elems (b.drop (i+n)):=by
 obtain ⟨t2,i2,n2,hq2,h2,hin,_,_,hr,_⟩:=seen_first h hb
 rw[hq] at hq2
 obtain ⟨rfl,h3⟩:=Prod.mk.inj (Except.ok.inj hq2)
 obtain ⟨rfl,rfl⟩:=Prod.mk.inj h3
 have hpos:0<b.length:=List.length_pos_iff.2 hb
 have e1:=elems_all h
 obtain ⟨f,hf⟩:∃ x,b.length=x+1:=⟨b.length-1,by omega⟩
 rw[hf,all,if_neg hb,hq] at e1
 have e1:(match all f (b.drop (i+n)) with | .error e=>(Except.error e:Except Nat (List (Nat×List Nat))) | .ok r=>.ok ((t,(b.drop i).take n) :: r))=.ok (elems b):=e1
 rw[all_room f (b.drop (i+n)).length k _ hr (by rw[List.length_drop];omega) (Nat.le_refl _),elems_all hr] at e1
 exact (Except.ok.inj e1).symm
theorem elems_none {k:Nat} {b:List Nat} (h:Seen k b):elems b=[]↔b=[]:=by
 refine ⟨fun e=>?_,fun e=>by rw[e];rfl⟩
 by_cases hb:b=[]
 ·exact hb
 ·obtain ⟨t,i,n,hq,_⟩:=seen_first h hb
  rw[elems_cons h hb hq] at e
  exact absurd e (by simp)
theorem seen_levels {b:List Nat} {m:Nat} (h8:∀ x∈b,x<256) (h:Tl.levels b=.ok m):Seen 16 b:=by
 rw[←check_levels b h8] at h
 unfold check at h
 by_cases h1:65536<b.length
 ·rw[if_pos h1] at h;exact absurd h (by simp)
 rw[if_neg h1] at h
 cases hf:Tl.first b with
 |error e=>rw[hf] at h;exact absurd h (by simp)
 |ok p =>
  obtain ⟨t,i,n⟩:=p
  rw[hf] at h
  have h:(if i+n<b.length then (Except.error 4:Except Nat Nat) else whole 16 false b)=.ok m:=h
  by_cases h2:i+n<b.length
  ·rw[if_pos h2] at h;exact absurd h (by simp)
  rw[if_neg h2] at h
  exact ⟨h8,_,_,_,_,_,m,Nat.le_refl _,h⟩
def Sane (s:Rd):Prop:=s.e=0→∃ k,k+s.left.length≤16∧Seen k s.top∧∀ i x,s.left[i]?=some x→Seen (k+i+1) x
theorem sane_start {b:List Nat} (h8:∀ x∈b,x<256):Sane (start b):=by
 intro h
 unfold start at h ⊢
 cases hl:Tl.levels b with
 |error e =>
  rw[hl] at h
  have hz:e≠0:=by
   unfold Tl.levels at hl
   by_cases h1:65536<b.length
   ·rw[if_pos h1] at hl;have:=Except.error.inj hl;omega
   rw[if_neg h1] at hl
   cases hf:Tl.first b with
   |error e2=>rw[hf] at hl;obtain rfl:=Except.error.inj hl;exact first_err hf
   |ok p =>
    obtain ⟨t,i,n⟩:=p
    rw[hf] at hl
    have hl:(if i+n<b.length then (Except.error 4:Except Nat Nat) else Tl.within 16 t ((b.drop i).take n))=.error e:=hl
    by_cases h2:i+n<b.length
    ·rw[if_pos h2] at hl;have:=Except.error.inj hl;omega
    ·rw[if_neg h2] at hl;exact within_err _ _ _ _ hl
  exact absurd h hz
 |ok m=>exact ⟨16,by simp,seen_levels h8 hl,by simp⟩
theorem sane_took {s:Rd} (hs:Sane s) {t i n:Nat} (hb:s.top≠[]) (hq:Tl.first s.top=.ok (t,i,n)):Sane { s with top:=s.top.drop (i+n) }:=by
 intro he
 obtain ⟨k,h1,h2,h3⟩:=hs he
 obtain ⟨t2,i2,n2,hq2,_,_,_,_,hr,_⟩:=seen_first h2 hb
 rw[hq] at hq2
 obtain ⟨rfl,h4⟩:=Prod.mk.inj (Except.ok.inj hq2)
 obtain ⟨rfl,rfl⟩:=Prod.mk.inj h4
 exact ⟨k,h1,hr,h3⟩
theorem sane_into {s:Rd} (hs:Sane s) {t i n:Nat} (hb:s.top≠[]) (hq:Tl.first s.top=.ok (t,i,n)) (hm:Tl.made (t:Nat)=true):Sane { s with top:=(s.top.drop i).take n,left:=s.top.drop (i+n) :: s.left }:=by
 intro he
 obtain ⟨k,h1,h2,h3⟩:=hs he
 obtain ⟨t2,i2,n2,hq2,_,_,_,_,hr,_,hmade⟩:=seen_first h2 hb
 rw[hq] at hq2
 obtain ⟨rfl,h4⟩:=Prod.mk.inj (Except.ok.inj hq2)
 obtain ⟨rfl,rfl⟩:=Prod.mk.inj h4
 obtain ⟨hk,hin⟩:=hmade hm
 refine ⟨k-1,by simp only[List.length_cons];omega,hin,fun j x hj=>?_⟩
 cases j with
 |zero =>
  simp only[List.getElem?_cons_zero,Option.some.injEq] at hj
  subst hj
  rw[show k-1+0+1=k by omega];exact hr
 |succ j =>
  rw[List.getElem?_cons_succ] at hj
  rw[show k-1+(j+1)+1=k+j+1 by omega];exact h3 j x hj
theorem sane_out {s:Rd} (hs:Sane s) {b:List Nat} {r:List (List Nat)} (hl:s.left=b :: r):Sane { s with top:=b,left:=r }:=by
 intro he
 obtain ⟨k,h1,h2,h3⟩:=hs he
 rw[hl] at h1 h3
 simp only[List.length_cons] at h1
 refine ⟨k+1,by simp only;omega,h3 0 b rfl,fun j x hj=>?_⟩
 rw[show k+1+j+1=k+(j+1)+1 by omega]
 exact h3 (j+1) x (by rw[List.getElem?_cons_succ];exact hj)
theorem sane_first {s:Rd} (hs:Sane s) (he:s.e=0) (hb:s.top≠[]):∃ t i n,Tl.first s.top=.ok (t,i,n)∧elems s.top=(t,(s.top.drop i).take n) :: elems (s.top.drop (i+n))∧Tl.known (t:Nat)=true∧n≤65530∧s.top.take (i+n)=Tl.elem t ((s.top.drop i).take n) ∧
  (∀ x∈(s.top.drop i).take n,x<256)∧((s.top.drop i).take n).length=n∧(Tl.made (t:Nat)=true→all ((s.top.drop i).take n).length ((s.top.drop i).take n)=.ok (elems ((s.top.drop i).take n))):=by
 obtain ⟨k,h1,h2,h3⟩:=hs he
 obtain ⟨t,i,n,hq,hi,hin,hk,hn,hr,het,hmade⟩:=seen_first h2 hb
 refine ⟨t,i,n,hq,elems_cons h2 hb hq,hk,hn,het,fun x hx=>h2.1 x (List.mem_of_mem_drop (List.mem_of_mem_take hx)),?_,fun hm=>elems_all (hmade hm).2⟩
 rw[List.length_take,List.length_drop];omega
theorem sane_none {s:Rd} (hs:Sane s) (he:s.e=0):elems s.top=[]↔s.top=[]:=by
 obtain ⟨k,_,h2,_⟩:=hs he
 exact elems_none h2
end De
end Go.Proofs.YtijkaknggdaajaaGreatDoor
