import Derived.Test.YtijkaknggdaajaaGreatDoorZw16
set_option linter.unusedVariables false
set_option linter.unusedSimpArgs false
set_option maxRecDepth 100000
set_option maxHeartbeats 16000000
namespace Go.Proofs.YtijkaknggdaajaaGreatDoor
open Go.Proofs.Tryz
open Lib (hid)
open Go.RowKit
def WhR (r:Except Nat Nat):Ending:=match r with
 |.error k=>.returned (.tuple #[.int .i64 0,.int .i64 (k:Int)])
 |.ok d=>.returned (.tuple #[.int .i64 (d:Int),.int .i64 0])
def lenS:Value->Nat
 |.slice _ n _=>n
 |_=>0
def IsW (L:Nat):Prop:=∀ (set:Bool) (v:Value) (l:List Nat) (w:World),Bytes w v l->l.length<=1099511620000 ->
 Calls prog 93 #[v,.int .i64 (L:Int),.bool set] w fun e w'=>e=WhR (De.whole L set l)/\w.grownBy w' none
theorem zDO (L:Nat) (hL:L<=16) (IH:∀ K,L=K+1->IsW K):IsW L:=by
 intro set v l w hB hl;obtain⟨R,hR⟩:∃ R,R=Tl.loop (Tl.within L) (decide (L=0)) set l.length l [] 0:=⟨_,rfl⟩
 have HX:Hid (De.whole L set l=R):=hid (by rw[hR];rfl);have HRR:=hid hR;have HB:=hid hB;have HIH:=hid IH;have hlt:=hB.lt;obtain⟨_,va,vsb,vso,vc,rfl,_⟩:=hB;obtain⟨n,hn⟩:∃ n,n=l.length:=⟨_,rfl⟩
 have HN:=hid hn;rw[<-hn]at HB hl ⊢;clear hR IH hn hlt;go_enter func93,ntmps93
 go_wp2
 go_loopw [0,8,9] (fun b d ah wr=>∃ (dn f:Nat) (al bl:List Nat) (aa:Option Addr) (am ac:Nat) (ba:Option Addr) (bm bc:Nat),d=.int .i64 dn/\dn<=L/\ah=.slice aa am ac/\b=.slice ba bm bc/\Bytes wr (.slice aa am ac) al/\Bytes wr (.slice ba bm bc) bl /\
  bl.length<=f/\bl.length<=1099511620000/\Tl.loop (Tl.within L) (decide (L=0)) set f bl al dn=R/\w.grownBy wr none) (fun b _ _ _=>lenS b)
 case atStart =>
  exact⟨0,l.length,[],l,_,0,0,va,n,vc,rfl,Nat.zero_le _,rfl,rfl,⟨by simp,_,0,0,0,rfl,Nat.le_refl _,fun h=>absurd h (Nat.lt_irrefl _),fun j hj=>absurd hj (Nat.not_lt_zero _)⟩,HB.out.grown (World.grownBy_alloc _ _ _),Nat.le_refl _,by rw[<-HN.out];exact hl,HRR.out.symm,World.grownBy_alloc _ _ _⟩
 case round =>
  obtain⟨dn,f,al,bl,aa,am,ac,ba,bm,bc,rfl,hdn,rfl,rfl,hAl,hBl,hf,hbl,hloop,hgr⟩:=hrel;have hbm:=hBl.cap.1;have hbc:=hBl.cap.2;have HAl:=hid hAl;have HBl:=hid hBl;have HLo:=hid hloop;have HGr:=hid hgr;clear hAl hBl hloop hgr;by_cases hb0:bm=0
  ·subst hb0;have hbl0:bl=[]:=List.eq_nil_of_length_eq_zero hbm.symm;have HR:Hid (R=.ok dn):=hid (by rw[<-HLo.out,hbl0];cases f <;> simp[Tl.loop]);clear hf hbl hbm hbl0;go_wp2
   go_ret2
   exact⟨by rw[HX.out,HR.out];rfl,HGr.out⟩
  ·obtain⟨f',rfl⟩:∃ f',f=f'+1:=⟨f-1,by omega⟩
   have hne:¬ bl=[]:=fun h=>hb0 (by rw[hbm,h];rfl)
   have HF:=hid (zBr _ bl wr HBl.out (by omega));have hbmx:bm<=1099511620000:=by omega
   have HBM:=hid hbm;have HFL:=hid hf;clear hbm hf hbl;have d0:decide ((0:Int)<(bm:Int))=true:=decide_eq_true (by omega);cases hfst:Tl.first bl with
   |error k =>
    have HR:Hid (R=.error k):=hid (by rw[<-HLo.out,Tl.loop,if_neg hne,hfst]);rw[hfst]at HF;have hk0:=De.first_err hfst;have hkb:((k:Int) != 0)=true:=by simp;omega
    clear hfst hne;go_wp2_with (go_at_call 92;refine HF.out.mono ?_;unfold NxR;rintro e w2 ⟨rfl,hg2⟩;have HG2:=hid hg2;clear hg2)
    go_ret2
    exact⟨by rw[HX.out,HR.out];rfl,zAb HGr.out HG2.out⟩
   |ok p =>
    obtain⟨t',i,n'⟩:=p;have hlt8:=HBl.out.lt;obtain⟨_,hn5,hle,hbl2,_⟩:=De.first_inv hlt8 hfst;have hi2:=Tl.first_two hfst;obtain⟨q,hq⟩:∃ q,q=i+n':=⟨_,rfl⟩
    have HQ:=hid hq;have hqb:q<=bm:=by rw[HBM.out,hq];exact hle
    have hqi:i+n'=q:=hq.symm;have HL1:Hid (R=if decide (L=0)then .error 6 else match Tl.within L t' ((bl.drop i).take n')with
      |.error e=>.error e
      |.ok m=>if set&&decide (Tl.cmpB (bl.take q) al<0)then .error 7 else Tl.loop (Tl.within L) (decide (L=0)) set f' (bl.drop q) (bl.take q) (max dn m)):=hid (by
     rw[<-HLo.out,Tl.loop,if_neg hne,hfst,HQ.out];rfl)
    rw[hfst]at HF;have HF2:Hid (Calls prog 92 #[.slice ba bm bc] wr fun e w'=>e=.returned (.tuple #[.int .i64 (t':Int),.int .i64 (i:Int),.int .i64 (q:Int),.int .i64 0])/\wr.grownBy w' none):=hid (by rw[HQ.out];exact HF.out);have HMd:=hid (fun W=>zBa (t':Int) W);have HBd:Hid (Bytes wr (.slice (subA ba i bc) (q-i) (bc-i)) ((bl.drop i).take n')):=hid (by rw[show q-i=n' by omega];exact(HBl.out.from i (by omega)).to n' (by omega));have HBt:Hid (Bytes wr (.slice ba q bc) (bl.take q)):=hid (HBl.out.to q (by omega));have HBr:Hid (Bytes wr (.slice (subA ba q bc) (bm-q) (bc-q)) (bl.drop q)):=hid (HBl.out.from q (by omega));have hqn:q-i=n':=by omega
    have hiq:i<=q:=by omega
    have hqc:q<=bc:=by omega
    have HI2:=hid hi2;have HHi:=hid hqi;clear hqn;clear hfst hne hle hbl2 HF hlt8 hq;by_cases hL0:L=0
    ·subst hL0;have HR:Hid (R=.error 6):=hid (by rw[HL1.out];rfl);clear HL1 HIH;go_wp2_with (go_at_call 92;refine HF2.out.mono ?_;rintro e w2 ⟨rfl,hg2⟩;have HG2:=hid (zAb HGr.out hg2);have HG3:=hid hg2;clear hg2)
     go_ret2
     exact⟨by rw[HX.out,HR.out];rfl,HG2.out⟩
    ·obtain⟨K,rfl⟩:∃ K,L=K+1:=⟨L-1,by omega⟩
     have HK:=hid (HIH.out K rfl);have dL:decide (((K:Nat)+1:Int)<1)=false:=decide_eq_false (by omega);rw[De.within_whole]at HL1;have HL2:Hid (R=match (if Tl.made t'=true then(match De.whole K (decide (t'=49)) ((bl.drop i).take n')with | .error e=>(.error e:Except Nat Nat) | .ok d=>.ok (1+d))else .ok 1)with
       |.error e=>.error e
       |.ok m=>if set&&decide (Tl.cmpB (bl.take q) al<0)then .error 7 else Tl.loop (Tl.within (K+1)) (decide (K+1=0)) set f' (bl.drop q) (bl.take q) (max dn m)):=hid (by rw[HL1.out];rfl)
     clear HL1 HIH;have hcx:=De.cmp_lex HBt.out.lt HAl.out.lt;have hlex:=zGD (strOf (bl.take q)) (strOf al);rw[zAw HBt.out.lt,zAw HAl.out.lt,<-hcx]at hlex;have HLex:=hid hlex;have HC:=hid (fun W x B (hx:Bytes W x B)=>zAS (P:=prog) hx 33 5 9 underlying33 underlying5 underlying9);clear hcx hlex;cases hm:Tl.made (t':Int)with
     |false =>
      have HL3:Hid (R=if set&&decide (Tl.cmpB (bl.take q) al<0)then .error 7 else Tl.loop (Tl.within (K+1)) (decide (K+1=0)) set f' (bl.drop q) (bl.take q) (max dn 1)):=hid (by rw[HL2.out,hm];rfl);rw[hm]at HMd;clear HL2 hm;obtain⟨less,hless⟩:∃ less,less=decide (Tl.cmpB (bl.take q) al<0):=⟨_,rfl⟩
      rw[<-hless]at HL3 HLex;clear hless;cases set with
      |false =>
       have HR:Hid (Tl.loop (Tl.within (K+1)) (decide (K+1=0)) false f' (bl.drop q) (bl.take q) (max dn 1)=R):=hid (by rw[HL3.out];rfl);clear HL3;by_cases hmx:dn<1
       ·have dm:decide ((dn:Int)<1)=true:=decide_eq_true (by omega);go_wp2_with (first|(go_at_call 92;refine HF2.out.mono ?_;rintro e w4 ⟨rfl,hg2⟩;have HG2:=hid (zAb HGr.out hg2);have HG3:=hid hg2;have HG4:=hid hg2;clear hg2)|(go_at_call 55;refine(HMd.out _).mono ?_;rintro e wm ⟨rfl,hwm⟩;have hwm':=hwm.symm;subst hwm';clear hwm))
        all_goals
         go_quiet (fail)
         go_wp2
         go_roundw
         case rel=>first|exact⟨1,f',bl.take q,bl.drop q,_,_,_,_,_,_,rfl,by omega,rfl,rfl,HBt.out.grown (zAd HG4.out _),HBr.out.grown (zAd HG4.out _),by rw[List.length_drop,<-HBM.out];have:=HI2.out;have:=HHi.out;have:=HFL.out;have:=HBM.out;omega,by rw[List.length_drop,<-HBM.out];omega,(by have h:=HR.out;rw[show max dn 1=1 by omega]at h;simpa using h),zAb HGr.out (zAd HG4.out _)⟩|((repeat apply Exists.intro);refine⟨⟨1,f',bl.take q,bl.drop q,_,_,_,_,_,_,rfl,by omega,rfl,rfl,HBt.out.grown (zAd HG4.out _),HBr.out.grown (zAd HG4.out _),by rw[List.length_drop,<-HBM.out];have:=HI2.out;have:=HHi.out;have:=HFL.out;have:=HBM.out;omega,by rw[List.length_drop,<-HBM.out];omega,(by have h:=HR.out;rw[show max dn 1=1 by omega]at h;simpa using h),zAb HGr.out (zAd HG4.out _)⟩,?_⟩;and_intros <;> rfl)
         case measure=>have:=HI2.out;have:=HHi.out;simp[lenS];omega
       ·have dm:decide ((dn:Int)<1)=false:=decide_eq_false (by omega);go_wp2_with (first|(go_at_call 92;refine HF2.out.mono ?_;rintro e w4 ⟨rfl,hg2⟩;have HG2:=hid (zAb HGr.out hg2);have HG3:=hid hg2;have HG4:=hid hg2;clear hg2)|(go_at_call 55;refine(HMd.out _).mono ?_;rintro e wm ⟨rfl,hwm⟩;have hwm':=hwm.symm;subst hwm';clear hwm))
        all_goals
         go_quiet (fail)
         go_wp2
         go_roundw
         case rel=>first|exact⟨dn,f',bl.take q,bl.drop q,_,_,_,_,_,_,rfl,by omega,rfl,rfl,HBt.out.grown (zAd HG4.out _),HBr.out.grown (zAd HG4.out _),by rw[List.length_drop,<-HBM.out];have:=HI2.out;have:=HHi.out;have:=HFL.out;have:=HBM.out;omega,by rw[List.length_drop,<-HBM.out];omega,(by have h:=HR.out;rw[show max dn 1=dn by omega]at h;simpa using h),zAb HGr.out (zAd HG4.out _)⟩|((repeat apply Exists.intro);refine⟨⟨dn,f',bl.take q,bl.drop q,_,_,_,_,_,_,rfl,by omega,rfl,rfl,HBt.out.grown (zAd HG4.out _),HBr.out.grown (zAd HG4.out _),by rw[List.length_drop,<-HBM.out];have:=HI2.out;have:=HHi.out;have:=HFL.out;have:=HBM.out;omega,by rw[List.length_drop,<-HBM.out];omega,(by have h:=HR.out;rw[show max dn 1=dn by omega]at h;simpa using h),zAb HGr.out (zAd HG4.out _)⟩,?_⟩;and_intros <;> rfl)
         case measure=>have:=HI2.out;have:=HHi.out;simp[lenS];omega
      |true =>
       cases less with
       |true =>
        have HR:Hid (R=.error 7):=hid (by rw[HL3.out];rfl);clear HL3;go_wp2_with (first|(go_at_call 92;refine HF2.out.mono ?_;rintro e w4 ⟨rfl,hg2⟩;have HG2:=hid (zAb HGr.out hg2);have HG3:=hid hg2;have HG4:=hid hg2;clear hg2)|(go_at_call 55;refine(HMd.out _).mono ?_;rintro e wm ⟨rfl,hwm⟩;have hwm':=hwm.symm;subst hwm';clear hwm))
        all_goals
         have c1:∀ m,(convert 33 9 (.slice ba q bc)).run prog (w4.drewN m)=.ok (.string (strOf (bl.take q))) (w4.drewN m):=fun m=>HC.out _ _ _ (HBt.out.grown (zAd HG4.out m))
         have c2:∀ m,(convert 33 9 (.slice aa am ac)).run prog (w4.drewN m)=.ok (.string (strOf al)) (w4.drewN m):=fun m=>HC.out _ _ _ (HAl.out.grown (zAd HG4.out m))
         generalize strOf (bl.take q)=s1 at *;generalize strOf al=s2 at *;go_quiet (fail)
         simp only[HLex.out];go_wp2
         go_ret2
         exact⟨by rw[HX.out,HR.out];rfl,zAb HGr.out (zAd HG4.out _)⟩
       |false =>
        have HR:Hid (Tl.loop (Tl.within (K+1)) (decide (K+1=0)) true f' (bl.drop q) (bl.take q) (max dn 1)=R):=hid (by rw[HL3.out];rfl);clear HL3;by_cases hmx:dn<1
        ·have dm:decide ((dn:Int)<1)=true:=decide_eq_true (by omega);go_wp2_with (first|(go_at_call 92;refine HF2.out.mono ?_;rintro e w4 ⟨rfl,hg2⟩;have HG2:=hid (zAb HGr.out hg2);have HG3:=hid hg2;have HG4:=hid hg2;clear hg2)|(go_at_call 55;refine(HMd.out _).mono ?_;rintro e wm ⟨rfl,hwm⟩;have hwm':=hwm.symm;subst hwm';clear hwm))
         all_goals
          have c1:∀ m,(convert 33 9 (.slice ba q bc)).run prog (w4.drewN m)=.ok (.string (strOf (bl.take q))) (w4.drewN m):=fun m=>HC.out _ _ _ (HBt.out.grown (zAd HG4.out m))
          have c2:∀ m,(convert 33 9 (.slice aa am ac)).run prog (w4.drewN m)=.ok (.string (strOf al)) (w4.drewN m):=fun m=>HC.out _ _ _ (HAl.out.grown (zAd HG4.out m))
          generalize strOf (bl.take q)=s1 at *;generalize strOf al=s2 at *;go_quiet (fail)
          simp only[HLex.out];go_wp2
          go_roundw
          case rel=>first|exact⟨1,f',bl.take q,bl.drop q,_,_,_,_,_,_,rfl,by omega,rfl,rfl,HBt.out.grown (zAd HG4.out _),HBr.out.grown (zAd HG4.out _),by rw[List.length_drop,<-HBM.out];have:=HI2.out;have:=HHi.out;have:=HFL.out;have:=HBM.out;omega,by rw[List.length_drop,<-HBM.out];omega,(by have h:=HR.out;rw[show max dn 1=1 by omega]at h;simpa using h),zAb HGr.out (zAd HG4.out _)⟩|((repeat apply Exists.intro);refine⟨⟨1,f',bl.take q,bl.drop q,_,_,_,_,_,_,rfl,by omega,rfl,rfl,HBt.out.grown (zAd HG4.out _),HBr.out.grown (zAd HG4.out _),by rw[List.length_drop,<-HBM.out];have:=HI2.out;have:=HHi.out;have:=HFL.out;have:=HBM.out;omega,by rw[List.length_drop,<-HBM.out];omega,(by have h:=HR.out;rw[show max dn 1=1 by omega]at h;simpa using h),zAb HGr.out (zAd HG4.out _)⟩,?_⟩;and_intros <;> rfl)
          case measure=>have:=HI2.out;have:=HHi.out;simp[lenS];omega
        ·have dm:decide ((dn:Int)<1)=false:=decide_eq_false (by omega);go_wp2_with (first|(go_at_call 92;refine HF2.out.mono ?_;rintro e w4 ⟨rfl,hg2⟩;have HG2:=hid (zAb HGr.out hg2);have HG3:=hid hg2;have HG4:=hid hg2;clear hg2)|(go_at_call 55;refine(HMd.out _).mono ?_;rintro e wm ⟨rfl,hwm⟩;have hwm':=hwm.symm;subst hwm';clear hwm))
         all_goals
          have c1:∀ m,(convert 33 9 (.slice ba q bc)).run prog (w4.drewN m)=.ok (.string (strOf (bl.take q))) (w4.drewN m):=fun m=>HC.out _ _ _ (HBt.out.grown (zAd HG4.out m))
          have c2:∀ m,(convert 33 9 (.slice aa am ac)).run prog (w4.drewN m)=.ok (.string (strOf al)) (w4.drewN m):=fun m=>HC.out _ _ _ (HAl.out.grown (zAd HG4.out m))
          generalize strOf (bl.take q)=s1 at *;generalize strOf al=s2 at *;go_quiet (fail)
          simp only[HLex.out];go_wp2
          go_roundw
          case rel=>first|exact⟨dn,f',bl.take q,bl.drop q,_,_,_,_,_,_,rfl,by omega,rfl,rfl,HBt.out.grown (zAd HG4.out _),HBr.out.grown (zAd HG4.out _),by rw[List.length_drop,<-HBM.out];have:=HI2.out;have:=HHi.out;have:=HFL.out;have:=HBM.out;omega,by rw[List.length_drop,<-HBM.out];omega,(by have h:=HR.out;rw[show max dn 1=dn by omega]at h;simpa using h),zAb HGr.out (zAd HG4.out _)⟩|((repeat apply Exists.intro);refine⟨⟨dn,f',bl.take q,bl.drop q,_,_,_,_,_,_,rfl,by omega,rfl,rfl,HBt.out.grown (zAd HG4.out _),HBr.out.grown (zAd HG4.out _),by rw[List.length_drop,<-HBM.out];have:=HI2.out;have:=HHi.out;have:=HFL.out;have:=HBM.out;omega,by rw[List.length_drop,<-HBM.out];omega,(by have h:=HR.out;rw[show max dn 1=dn by omega]at h;simpa using h),zAb HGr.out (zAd HG4.out _)⟩,?_⟩;and_intros <;> rfl)
          case measure=>have:=HI2.out;have:=HHi.out;simp[lenS];omega
     |true =>
      rw[hm]at HMd HL2;have e49:((t':Int)==49)=decide (t'=49):=by rw[Bool.eq_iff_iff];simp;omega
      obtain⟨r',hr'⟩:∃ r',r'=De.whole K (decide (t'=49)) ((bl.drop i).take n'):=⟨_,rfl⟩
      have HI:Hid (∀ W,wr.grownBy W none->Calls prog 93 #[.slice (subA ba i bc) (q-i) (bc-i),.int .i64 (K:Int),.bool ((t':Int)==49)] W fun e w'=>e=WhR r'/\W.grownBy w' none):=hid (fun W hW=>by
       rw[hr',e49];exact HK.out _ _ _ W (HBd.out.grown hW) (by rw[List.length_take,List.length_drop,<-HBM.out];omega))
      have hle2:=fun m (h:r'=.ok m)=>De.whole_le (hr' ▸ h)
      have her2:=fun k (h:r'=.error k)=>De.whole_err (hr' ▸ h)
      rw[<-hr']at HL2;clear hr' hm HK e49;cases r' with
      |error k =>
       have HR:Hid (R=.error k):=hid (by rw[HL2.out];rfl);have HI3:Hid (∀ W,wr.grownBy W none->Calls prog 93 #[.slice (subA ba i bc) (q-i) (bc-i),.int .i64 (K:Int),.bool ((t':Int)==49)] W fun e w'=>e=.returned (.tuple #[.int .i64 0,.int .i64 (k:Int)])/\W.grownBy w' none):=hid (fun W hW=>HI.out W hW);have hkb:((k:Int) != 0)=true:=by have:=her2 k rfl;simp;omega
       clear HL2;go_wp2_with (first|(go_at_call 92;refine HF2.out.mono ?_;rintro e w2 ⟨rfl,hg2⟩;have HG2:=hid (zAb HGr.out hg2);have HG3:=hid hg2;clear hg2)|(go_at_call 55;refine(HMd.out _).mono ?_;rintro e w3 ⟨rfl,hw3⟩;have hw3':=hw3.symm;subst hw3';clear hw3)|(go_at_call 93;refine(HI3.out _ HG3.out).mono ?_;rintro e w4 ⟨rfl,hg4⟩;have HG4:=hid (zAb HG3.out hg4);clear hg4))
       all_goals
        go_ret2
        exact⟨by rw[HX.out,HR.out];rfl,zAb HGr.out HG4.out⟩
      |ok mm =>
       have hmm:=hle2 mm rfl;have HL3:Hid (R=if set&&decide (Tl.cmpB (bl.take q) al<0)then .error 7 else Tl.loop (Tl.within (K+1)) (decide (K+1=0)) set f' (bl.drop q) (bl.take q) (max dn (1+mm))):=hid (by rw[HL2.out];rfl);have HI3:Hid (∀ W,wr.grownBy W none->Calls prog 93 #[.slice (subA ba i bc) (q-i) (bc-i),.int .i64 (K:Int),.bool ((t':Int)==49)] W fun e w'=>e=.returned (.tuple #[.int .i64 (mm:Int),.int .i64 0])/\W.grownBy w' none):=hid (fun W hW=>HI.out W hW);clear HL2 hle2 her2;obtain⟨less,hless⟩:∃ less,less=decide (Tl.cmpB (bl.take q) al<0):=⟨_,rfl⟩
       rw[<-hless]at HL3 HLex;clear hless;cases set with
       |false =>
        have HR:Hid (Tl.loop (Tl.within (K+1)) (decide (K+1=0)) false f' (bl.drop q) (bl.take q) (max dn (1+mm))=R):=hid (by rw[HL3.out];rfl);clear HL3;by_cases hmx:dn<(1+mm)
        ·have dm:decide ((dn:Int)<1+(mm:Int))=true:=decide_eq_true (by omega);go_wp2_with (first|(go_at_call 92;refine HF2.out.mono ?_;rintro e w2 ⟨rfl,hg2⟩;have HG2:=hid (zAb HGr.out hg2);have HG3:=hid hg2;clear hg2)|(go_at_call 55;refine(HMd.out _).mono ?_;rintro e w3 ⟨rfl,hw3⟩;have hw3':=hw3.symm;subst hw3';clear hw3)|(go_at_call 93;refine(HI3.out _ HG3.out).mono ?_;rintro e w4 ⟨rfl,hg4⟩;have HG4:=hid (zAb HG3.out hg4);clear hg4))
         all_goals
          go_quiet (fail)
          go_wp2
          go_roundw
          case rel=>first|(refine⟨(1+mm),f',bl.take q,bl.drop q,_,_,_,_,_,_,?_,by omega,rfl,rfl,HBt.out.grown (zAd HG4.out _),HBr.out.grown (zAd HG4.out _),by rw[List.length_drop,<-HBM.out];have:=HI2.out;have:=HHi.out;have:=HFL.out;have:=HBM.out;omega,by rw[List.length_drop,<-HBM.out];omega,(by have h:=HR.out;rw[show max dn (1+mm)=(1+mm)by omega]at h;simpa using h),zAb HGr.out (zAd HG4.out _)⟩;refine congrArg (Value.int IntKind.i64) ?_;omega)|((repeat apply Exists.intro);refine⟨⟨(1+mm),f',bl.take q,bl.drop q,_,_,_,_,_,_,?_,by omega,rfl,rfl,HBt.out.grown (zAd HG4.out _),HBr.out.grown (zAd HG4.out _),by rw[List.length_drop,<-HBM.out];have:=HI2.out;have:=HHi.out;have:=HFL.out;have:=HBM.out;omega,by rw[List.length_drop,<-HBM.out];omega,(by have h:=HR.out;rw[show max dn (1+mm)=(1+mm)by omega]at h;simpa using h),zAb HGr.out (zAd HG4.out _)⟩,?_⟩;rotate_left;(and_intros <;> rfl);(refine congrArg (Value.int IntKind.i64) ?_;omega))
          case measure=>have:=HI2.out;have:=HHi.out;simp[lenS];omega
        ·have dm:decide ((dn:Int)<1+(mm:Int))=false:=decide_eq_false (by omega);go_wp2_with (first|(go_at_call 92;refine HF2.out.mono ?_;rintro e w2 ⟨rfl,hg2⟩;have HG2:=hid (zAb HGr.out hg2);have HG3:=hid hg2;clear hg2)|(go_at_call 55;refine(HMd.out _).mono ?_;rintro e w3 ⟨rfl,hw3⟩;have hw3':=hw3.symm;subst hw3';clear hw3)|(go_at_call 93;refine(HI3.out _ HG3.out).mono ?_;rintro e w4 ⟨rfl,hg4⟩;have HG4:=hid (zAb HG3.out hg4);clear hg4))
         all_goals
          go_quiet (fail)
          go_wp2
          go_roundw
          case rel=>first|exact⟨dn,f',bl.take q,bl.drop q,_,_,_,_,_,_,rfl,by omega,rfl,rfl,HBt.out.grown (zAd HG4.out _),HBr.out.grown (zAd HG4.out _),by rw[List.length_drop,<-HBM.out];have:=HI2.out;have:=HHi.out;have:=HFL.out;have:=HBM.out;omega,by rw[List.length_drop,<-HBM.out];omega,(by have h:=HR.out;rw[show max dn (1+mm)=dn by omega]at h;simpa using h),zAb HGr.out (zAd HG4.out _)⟩|((repeat apply Exists.intro);refine⟨⟨dn,f',bl.take q,bl.drop q,_,_,_,_,_,_,rfl,by omega,rfl,rfl,HBt.out.grown (zAd HG4.out _),HBr.out.grown (zAd HG4.out _),by rw[List.length_drop,<-HBM.out];have:=HI2.out;have:=HHi.out;have:=HFL.out;have:=HBM.out;omega,by rw[List.length_drop,<-HBM.out];omega,(by have h:=HR.out;rw[show max dn (1+mm)=dn by omega]at h;simpa using h),zAb HGr.out (zAd HG4.out _)⟩,?_⟩;and_intros <;> rfl)
          case measure=>have:=HI2.out;have:=HHi.out;simp[lenS];omega
       |true =>
        cases less with
        |true =>
         have HR:Hid (R=.error 7):=hid (by rw[HL3.out];rfl);clear HL3;go_wp2_with (first|(go_at_call 92;refine HF2.out.mono ?_;rintro e w2 ⟨rfl,hg2⟩;have HG2:=hid (zAb HGr.out hg2);have HG3:=hid hg2;clear hg2)|(go_at_call 55;refine(HMd.out _).mono ?_;rintro e w3 ⟨rfl,hw3⟩;have hw3':=hw3.symm;subst hw3';clear hw3)|(go_at_call 93;refine(HI3.out _ HG3.out).mono ?_;rintro e w4 ⟨rfl,hg4⟩;have HG4:=hid (zAb HG3.out hg4);clear hg4))
         all_goals
          have c1:∀ m,(convert 33 9 (.slice ba q bc)).run prog (w4.drewN m)=.ok (.string (strOf (bl.take q))) (w4.drewN m):=fun m=>HC.out _ _ _ (HBt.out.grown (zAd HG4.out m))
          have c2:∀ m,(convert 33 9 (.slice aa am ac)).run prog (w4.drewN m)=.ok (.string (strOf al)) (w4.drewN m):=fun m=>HC.out _ _ _ (HAl.out.grown (zAd HG4.out m))
          generalize strOf (bl.take q)=s1 at *;generalize strOf al=s2 at *;go_quiet (fail)
          simp only[HLex.out];go_wp2
          go_ret2
          exact⟨by rw[HX.out,HR.out];rfl,zAb HGr.out (zAd HG4.out _)⟩
        |false =>
         have HR:Hid (Tl.loop (Tl.within (K+1)) (decide (K+1=0)) true f' (bl.drop q) (bl.take q) (max dn (1+mm))=R):=hid (by rw[HL3.out];rfl);clear HL3;by_cases hmx:dn<(1+mm)
         ·have dm:decide ((dn:Int)<1+(mm:Int))=true:=decide_eq_true (by omega);go_wp2_with (first|(go_at_call 92;refine HF2.out.mono ?_;rintro e w2 ⟨rfl,hg2⟩;have HG2:=hid (zAb HGr.out hg2);have HG3:=hid hg2;clear hg2)|(go_at_call 55;refine(HMd.out _).mono ?_;rintro e w3 ⟨rfl,hw3⟩;have hw3':=hw3.symm;subst hw3';clear hw3)|(go_at_call 93;refine(HI3.out _ HG3.out).mono ?_;rintro e w4 ⟨rfl,hg4⟩;have HG4:=hid (zAb HG3.out hg4);clear hg4))
          all_goals
           have c1:∀ m,(convert 33 9 (.slice ba q bc)).run prog (w4.drewN m)=.ok (.string (strOf (bl.take q))) (w4.drewN m):=fun m=>HC.out _ _ _ (HBt.out.grown (zAd HG4.out m))
           have c2:∀ m,(convert 33 9 (.slice aa am ac)).run prog (w4.drewN m)=.ok (.string (strOf al)) (w4.drewN m):=fun m=>HC.out _ _ _ (HAl.out.grown (zAd HG4.out m))
           generalize strOf (bl.take q)=s1 at *;generalize strOf al=s2 at *;go_quiet (fail)
           simp only[HLex.out];go_wp2
           go_roundw
           case rel=>first|(refine⟨(1+mm),f',bl.take q,bl.drop q,_,_,_,_,_,_,?_,by omega,rfl,rfl,HBt.out.grown (zAd HG4.out _),HBr.out.grown (zAd HG4.out _),by rw[List.length_drop,<-HBM.out];have:=HI2.out;have:=HHi.out;have:=HFL.out;have:=HBM.out;omega,by rw[List.length_drop,<-HBM.out];omega,(by have h:=HR.out;rw[show max dn (1+mm)=(1+mm)by omega]at h;simpa using h),zAb HGr.out (zAd HG4.out _)⟩;refine congrArg (Value.int IntKind.i64) ?_;omega)|((repeat apply Exists.intro);refine⟨⟨(1+mm),f',bl.take q,bl.drop q,_,_,_,_,_,_,?_,by omega,rfl,rfl,HBt.out.grown (zAd HG4.out _),HBr.out.grown (zAd HG4.out _),by rw[List.length_drop,<-HBM.out];have:=HI2.out;have:=HHi.out;have:=HFL.out;have:=HBM.out;omega,by rw[List.length_drop,<-HBM.out];omega,(by have h:=HR.out;rw[show max dn (1+mm)=(1+mm)by omega]at h;simpa using h),zAb HGr.out (zAd HG4.out _)⟩,?_⟩;rotate_left;(and_intros <;> rfl);(refine congrArg (Value.int IntKind.i64) ?_;omega))
           case measure=>have:=HI2.out;have:=HHi.out;simp[lenS];omega
         ·have dm:decide ((dn:Int)<1+(mm:Int))=false:=decide_eq_false (by omega);go_wp2_with (first|(go_at_call 92;refine HF2.out.mono ?_;rintro e w2 ⟨rfl,hg2⟩;have HG2:=hid (zAb HGr.out hg2);have HG3:=hid hg2;clear hg2)|(go_at_call 55;refine(HMd.out _).mono ?_;rintro e w3 ⟨rfl,hw3⟩;have hw3':=hw3.symm;subst hw3';clear hw3)|(go_at_call 93;refine(HI3.out _ HG3.out).mono ?_;rintro e w4 ⟨rfl,hg4⟩;have HG4:=hid (zAb HG3.out hg4);clear hg4))
          all_goals
           have c1:∀ m,(convert 33 9 (.slice ba q bc)).run prog (w4.drewN m)=.ok (.string (strOf (bl.take q))) (w4.drewN m):=fun m=>HC.out _ _ _ (HBt.out.grown (zAd HG4.out m))
           have c2:∀ m,(convert 33 9 (.slice aa am ac)).run prog (w4.drewN m)=.ok (.string (strOf al)) (w4.drewN m):=fun m=>HC.out _ _ _ (HAl.out.grown (zAd HG4.out m))
           generalize strOf (bl.take q)=s1 at *;generalize strOf al=s2 at *;go_quiet (fail)
           simp only[HLex.out];go_wp2
           go_roundw
           case rel=>first|exact⟨dn,f',bl.take q,bl.drop q,_,_,_,_,_,_,rfl,by omega,rfl,rfl,HBt.out.grown (zAd HG4.out _),HBr.out.grown (zAd HG4.out _),by rw[List.length_drop,<-HBM.out];have:=HI2.out;have:=HHi.out;have:=HFL.out;have:=HBM.out;omega,by rw[List.length_drop,<-HBM.out];omega,(by have h:=HR.out;rw[show max dn (1+mm)=dn by omega]at h;simpa using h),zAb HGr.out (zAd HG4.out _)⟩|((repeat apply Exists.intro);refine⟨⟨dn,f',bl.take q,bl.drop q,_,_,_,_,_,_,rfl,by omega,rfl,rfl,HBt.out.grown (zAd HG4.out _),HBr.out.grown (zAd HG4.out _),by rw[List.length_drop,<-HBM.out];have:=HI2.out;have:=HHi.out;have:=HFL.out;have:=HBM.out;omega,by rw[List.length_drop,<-HBM.out];omega,(by have h:=HR.out;rw[show max dn (1+mm)=dn by omega]at h;simpa using h),zAb HGr.out (zAd HG4.out _)⟩,?_⟩;and_intros <;> rfl)
           case measure=>have:=HI2.out;have:=HHi.out;simp[lenS];omega
theorem zCV:∀ (L:Nat),L<=16->IsW L
 |0,h=>zDO 0 h (fun K e=>absurd e (by omega))
 |L+1,h=>zDO (L+1) h (fun K e=>by
   obtain rfl:L=K:=by omega
   exact zCV L (by omega))
theorem zCX (v:Value) (l:List Nat) (w:World) (hB:Bytes w v l) (hl:l.length<=1099511620000) :
  Calls prog 58 #[v] w fun e w'=>e=WhR (Tl.levels l)/\w.grownBy w' none:=by
 have hlt:=hB.lt;rw[<-De.check_levels l hlt];have HB:=hid hB;obtain⟨_,va,vsb,vso,vc,rfl,_⟩:=hB;obtain⟨n,hn⟩:∃ n,n=l.length:=⟨_,rfl⟩
 have HN:=hid hn;rw[<-hn]at HB hl ⊢;have HF:=hid (zBr _ l w HB.out (by rw[<-hn];omega));have HW:=hid (fun W (hW:w.grownBy W none)=>zCV 16 (by decide) false _ l W (HB.out.grown hW) (by rw[<-hn];exact hl));by_cases h1:65536<n
 ·have HX:Hid (De.check l=.error 3):=hid (by unfold De.check;rw[if_pos (by rw[<-HN.out];exact h1)]);clear hn;go_enter func58,ntmps58
  go_wp2
  go_ret2
  exact⟨by rw[HX.out];rfl,zAa _ _⟩
 ·have HX0:Hid (De.check l=match Tl.first l with
   |.error e=>.error e
   |.ok (_,i,m)=>if i+m<n then .error 4 else De.whole 16 false l):=hid (by unfold De.check;rw[if_neg (by rw[<-HN.out];exact h1),<-HN.out];try rfl)
  clear hn;cases hf:Tl.first l with
  |error k =>
   have HX:Hid (De.check l=.error k):=hid (by rw[HX0.out,hf]);have hk0:=De.first_err hf;have hkb:((k:Int) != 0)=true:=by simp;omega
   have HF2:Hid (Calls prog 92 #[.slice va n vc] w fun e w'=>e=.returned (.tuple #[.int .i64 0,.int .i64 0,.int .i64 0,.int .i64 (k:Int)])/\w.grownBy w' none):=hid (by have:=HF.out;rw[hf]at this;exact this);clear hf HX0 HF;go_enter func58,ntmps58
   go_wp2_with (go_at_call 92;refine HF2.out.mono ?_;rintro e w2 ⟨rfl,hg2⟩;have HG2:=hid hg2;clear hg2)
   go_ret2
   exact⟨by rw[HX.out];rfl,HG2.out⟩
  |ok p =>
   obtain⟨t,i,m⟩:=p;obtain⟨q,hq⟩:∃ q,q=i+m:=⟨_,rfl⟩
   have HF2:Hid (Calls prog 92 #[.slice va n vc] w fun e w'=>e=.returned (.tuple #[.int .i64 (t:Int),.int .i64 (i:Int),.int .i64 (q:Int),.int .i64 0])/\w.grownBy w' none):=hid (by have:=HF.out;rw[hf]at this;rw[hq];exact this);have HX1:Hid (De.check l=if q<n then .error 4 else De.whole 16 false l):=hid (by rw[HX0.out,hf,hq]);clear hf HX0 HF hq;by_cases hqn:q<n
   ·have HX:Hid (De.check l=.error 4):=hid (by rw[HX1.out,if_pos hqn]);clear HX1;go_enter func58,ntmps58
    go_wp2_with (go_at_call 92;refine HF2.out.mono ?_;rintro e w2 ⟨rfl,hg2⟩;have HG2:=hid hg2;clear hg2)
    go_ret2
    exact⟨by rw[HX.out];rfl,HG2.out⟩
   ·have HX:Hid (De.check l=De.whole 16 false l):=hid (by rw[HX1.out,if_neg hqn]);clear HX1;obtain⟨r,hr⟩:∃ r,r=De.whole 16 false l:=⟨_,rfl⟩
    rw[<-hr]at HX HW;clear hr;cases r with
    |error k =>
     have HW2:Hid (∀ W,w.grownBy W none->Calls prog 93 #[.slice va n vc,.int .i64 16,.bool false] W fun e w'=>e=.returned (.tuple #[.int .i64 0,.int .i64 (k:Int)])/\W.grownBy w' none):=hid (fun W hW=>HW.out W hW);clear HW;go_enter func58,ntmps58
     go_wp2_with (first
      |(go_at_call 92;refine HF2.out.mono ?_;rintro e w2 ⟨rfl,hg2⟩;have HG2:=hid hg2;clear hg2)
      |(go_at_call 93;refine(HW2.out _ HG2.out).mono ?_;rintro e w3 ⟨rfl,hg3⟩;have HG3:=hid (zAb HG2.out hg3);clear hg3))
     go_ret2
     exact⟨by rw[HX.out];rfl,HG3.out⟩
    |ok d =>
     have HW2:Hid (∀ W,w.grownBy W none->Calls prog 93 #[.slice va n vc,.int .i64 16,.bool false] W fun e w'=>e=.returned (.tuple #[.int .i64 (d:Int),.int .i64 0])/\W.grownBy w' none):=hid (fun W hW=>HW.out W hW);clear HW;go_enter func58,ntmps58
     go_wp2_with (first
      |(go_at_call 92;refine HF2.out.mono ?_;rintro e w2 ⟨rfl,hg2⟩;have HG2:=hid hg2;clear hg2)
      |(go_at_call 93;refine(HW2.out _ HG2.out).mono ?_;rintro e w3 ⟨rfl,hg3⟩;have HG3:=hid (zAb HG2.out hg3);clear hg3))
     go_ret2
     exact⟨by rw[HX.out];rfl,HG3.out⟩
namespace De
def Seen (k:Nat) (b:List Nat):Prop:=(∀ x∈b,x<256)/\∃ one set f a d m,b.length<=f/\Tl.loop (Tl.within k) one set f b a d=.ok m
theorem seen_first {k:Nat} {b:List Nat} (h:Seen k b) (hb:b≠[]):∃ t i n,Tl.first b=.ok (t,i,n)/\2<=i/\i+n<=b.length/\Tl.known (t:Nat)=true/\n<=65530/\Seen k (b.drop (i+n)) /\
  b.take (i+n)=Tl.elem t ((b.drop i).take n)/\(Tl.made (t:Nat)=true->1<=k/\Seen (k-1) ((b.drop i).take n)):=by
 obtain⟨h8,one,set,f,a,d,m,hf,hl⟩:=h;cases f with
 |zero=>exact absurd (List.length_eq_zero_iff.1 (by omega)) hb
 |succ f =>
  rw[Tl.loop,if_neg hb]at hl;cases hq:Tl.first b with
  |error e=>rw[hq]at hl;exact absurd hl (by simp)
  |ok p =>
   obtain⟨t,i,n⟩:=p;rw[hq]at hl;obtain⟨hk,hn,hin,hlen,he⟩:=first_inv h8 hq;have h2:=Tl.first_two hq;cases one with
   |true=>exact absurd hl (by simp)
   |false =>
    have hl:(match Tl.within k t ((b.drop i).take n)with
     |.error e=>(Except.error e:Except Nat Nat)
     |.ok m=>if set&&decide (Tl.cmpB (b.take (i+n)) a<0)then .error 7 else Tl.loop (Tl.within k) false set f (b.drop (i+n)) (b.take (i+n)) (max d m))=.ok m:=hl
    cases hw:Tl.within k t ((b.drop i).take n)with
    |error e=>rw[hw]at hl;exact absurd hl (by simp)
    |ok m2 =>
     rw[hw]at hl;have hl:(if set&&decide (Tl.cmpB (b.take (i+n)) a<0)then .error 7 else Tl.loop (Tl.within k) false set f (b.drop (i+n)) (b.take (i+n)) (max d m2))=(Except.ok m:Except Nat Nat):=hl;by_cases hs:(set&&decide (Tl.cmpB (b.take (i+n)) a<0))=true
     ·rw[if_pos hs]at hl;exact absurd hl (by simp)
     rw[if_neg hs]at hl;refine⟨t,i,n,rfl,h2,hin,hk,hn,⟨fun x hx=>h8 x (List.mem_of_mem_drop hx),_,_,f,_,_,m,?_,hl⟩,he,fun hm=>?_⟩
     ·rw[List.length_drop];omega
     ·cases k with
      |zero=>rw[Tl.within]at hw;exact absurd hw (by simp)
      |succ k =>
       rw[within_whole,if_pos hm]at hw;cases hq2:whole k (decide (t=49)) ((b.drop i).take n)with
       |error e=>rw[hq2]at hw;exact absurd hw (by simp)
       |ok m3=>exact⟨by omega,fun x hx=>h8 x (List.mem_of_mem_drop (List.mem_of_mem_take hx)),_,_,_,_,_,m3,Nat.le_refl _,hq2⟩
theorem seen_all:∀ (f k:Nat) (b:List Nat),Seen k b->b.length<=f->∃ ps,all f b=.ok ps
 |0,_,_,_,_=>⟨[],rfl⟩
 |f+1,k,b,h,hf=>by
  by_cases hb:b=[]
  ·exact⟨[],by rw[all,if_pos hb]⟩
  ·obtain⟨t,i,n,hq,h2,hin,_,_,hr,_⟩:=seen_first h hb;obtain⟨ps,hp⟩:=seen_all f k _ hr (by rw[List.length_drop];omega);exact⟨(t,(b.drop i).take n) :: ps,by rw[all,if_neg hb,hq];show(match all f _ with | .error e=>_ | .ok r=>_)=_;rw[hp]⟩
theorem all_room:∀ (f g k:Nat) (b:List Nat),Seen k b->b.length<=f->b.length<=g->all f b=all g b
 |f,g,k,b,h,hf,hg=>by
  by_cases hb:b=[]
  ·subst hb;cases f <;> cases g <;> simp[all]
  ·obtain⟨t,i,n,hq,h2,hin,_,_,hr,_⟩:=seen_first h hb;have hpos:0<b.length:=List.length_pos_iff.2 hb;obtain⟨f,rfl⟩:∃ x,f=x+1:=⟨f-1,by omega⟩
   obtain⟨g,rfl⟩:∃ x,g=x+1:=⟨g-1,by omega⟩
   rw[all,if_neg hb,all,if_neg hb,hq]
   show(match all f _ with | .error e=>_ | .ok r=>_)=(match all g _ with | .error e=>_ | .ok r=>_)
   rw[all_room f g k _ hr (by rw[List.length_drop];omega) (by rw[List.length_drop];omega)]
 termination_by f=>f
def elems (b:List Nat):List (Nat×List Nat):=match all b.length b with
 |.error _=>[]
 |.ok r=>r
theorem elems_nil:elems []=[]:=rfl
theorem elems_all {k:Nat} {b:List Nat} (h:Seen k b):all b.length b=.ok (elems b):=by
 obtain⟨ps,hp⟩:=seen_all b.length k b h (Nat.le_refl _);unfold elems;rw[hp]
theorem elems_cons {k:Nat} {b:List Nat} (h:Seen k b) (hb:b≠[]) {t i n:Nat} (hq:Tl.first b=.ok (t,i,n)):elems b=(t,(b.drop i).take n) :: elems (b.drop (i+n)):=by
 obtain⟨t2,i2,n2,hq2,h2,hin,_,_,hr,_⟩:=seen_first h hb;rw[hq]at hq2;obtain⟨rfl,h3⟩:=Prod.mk.inj (Except.ok.inj hq2);obtain⟨rfl,rfl⟩:=Prod.mk.inj h3;have hpos:0<b.length:=List.length_pos_iff.2 hb;have e1:=elems_all h;obtain⟨f,hf⟩:∃ x,b.length=x+1:=⟨b.length-1,by omega⟩
 rw[hf,all,if_neg hb,hq]at e1;have e1:(match all f (b.drop (i+n))with | .error e=>(Except.error e:Except Nat (List (Nat×List Nat))) | .ok r=>.ok ((t,(b.drop i).take n) :: r))=.ok (elems b):=e1;rw[all_room f (b.drop (i+n)).length k _ hr (by rw[List.length_drop];omega) (Nat.le_refl _),elems_all hr]at e1;exact(Except.ok.inj e1).symm
theorem elems_none {k:Nat} {b:List Nat} (h:Seen k b):elems b=[]↔b=[]:=by
 refine⟨fun e=>?_,fun e=>by rw[e];rfl⟩;by_cases hb:b=[]
 ·exact hb
 ·obtain⟨t,i,n,hq,_⟩:=seen_first h hb;rw[elems_cons h hb hq]at e;exact absurd e (by simp)
theorem seen_levels {b:List Nat} {m:Nat} (h8:∀ x∈b,x<256) (h:Tl.levels b=.ok m):Seen 16 b:=by
 rw[<-check_levels b h8]at h;unfold check at h;by_cases h1:65536<b.length
 ·rw[if_pos h1]at h;exact absurd h (by simp)
 rw[if_neg h1]at h;cases hf:Tl.first b with
 |error e=>rw[hf]at h;exact absurd h (by simp)
 |ok p =>
  obtain⟨t,i,n⟩:=p;rw[hf]at h;have h:(if i+n<b.length then(Except.error 4:Except Nat Nat)else whole 16 false b)=.ok m:=h;by_cases h2:i+n<b.length
  ·rw[if_pos h2]at h;exact absurd h (by simp)
  rw[if_neg h2]at h;exact⟨h8,_,_,_,_,_,m,Nat.le_refl _,h⟩
def Sane (s:Rd):Prop:=s.e=0->∃ k,k+s.left.length<=16/\Seen k s.top/\∀ i x,s.left[i]?=some x->Seen (k+i+1) x
theorem sane_start {b:List Nat} (h8:∀ x∈b,x<256):Sane (start b):=by
 intro h;unfold start at h ⊢;cases hl:Tl.levels b with
 |error e =>
  rw[hl]at h;have hz:e≠0:=by
   unfold Tl.levels at hl;by_cases h1:65536<b.length
   ·rw[if_pos h1]at hl;have:=Except.error.inj hl;omega
   rw[if_neg h1]at hl;cases hf:Tl.first b with
   |error e2=>rw[hf]at hl;obtain rfl:=Except.error.inj hl;exact first_err hf
   |ok p =>
    obtain⟨t,i,n⟩:=p;rw[hf]at hl;have hl:(if i+n<b.length then(Except.error 4:Except Nat Nat)else Tl.within 16 t ((b.drop i).take n))=.error e:=hl;by_cases h2:i+n<b.length
    ·rw[if_pos h2]at hl;have:=Except.error.inj hl;omega
    ·rw[if_neg h2]at hl;exact within_err _ _ _ _ hl
  exact absurd h hz
 |ok m=>exact⟨16,by simp,seen_levels h8 hl,by simp⟩
theorem sane_took {s:Rd} (hs:Sane s) {t i n:Nat} (hb:s.top≠[]) (hq:Tl.first s.top=.ok (t,i,n)):Sane { s with top:=s.top.drop (i+n) }:=by
 intro he;obtain⟨k,h1,h2,h3⟩:=hs he;obtain⟨t2,i2,n2,hq2,_,_,_,_,hr,_⟩:=seen_first h2 hb;rw[hq]at hq2;obtain⟨rfl,h4⟩:=Prod.mk.inj (Except.ok.inj hq2);obtain⟨rfl,rfl⟩:=Prod.mk.inj h4;exact⟨k,h1,hr,h3⟩
theorem sane_into {s:Rd} (hs:Sane s) {t i n:Nat} (hb:s.top≠[]) (hq:Tl.first s.top=.ok (t,i,n)) (hm:Tl.made (t:Nat)=true):Sane { s with top:=(s.top.drop i).take n,left:=s.top.drop (i+n) :: s.left }:=by
 intro he;obtain⟨k,h1,h2,h3⟩:=hs he;obtain⟨t2,i2,n2,hq2,_,_,_,_,hr,_,hmade⟩:=seen_first h2 hb;rw[hq]at hq2;obtain⟨rfl,h4⟩:=Prod.mk.inj (Except.ok.inj hq2);obtain⟨rfl,rfl⟩:=Prod.mk.inj h4;obtain⟨hk,hin⟩:=hmade hm;refine⟨k-1,by simp only[List.length_cons];omega,hin,fun j x hj=>?_⟩;cases j with
 |zero =>
  simp only[List.getElem?_cons_zero,Option.some.injEq]at hj;subst hj;rw[show k-1+0+1=k by omega];exact hr
 |succ j =>
  rw[List.getElem?_cons_succ]at hj;rw[show k-1+(j+1)+1=k+j+1 by omega];exact h3 j x hj
theorem sane_out {s:Rd} (hs:Sane s) {b:List Nat} {r:List (List Nat)} (hl:s.left=b :: r):Sane { s with top:=b,left:=r }:=by
 intro he;obtain⟨k,h1,h2,h3⟩:=hs he;rw[hl]at h1 h3;simp only[List.length_cons]at h1;refine⟨k+1,by simp only;omega,h3 0 b rfl,fun j x hj=>?_⟩;rw[show k+1+j+1=k+(j+1)+1 by omega];exact h3 (j+1) x (by rw[List.getElem?_cons_succ];exact hj)
theorem sane_first {s:Rd} (hs:Sane s) (he:s.e=0) (hb:s.top≠[]):∃ t i n,Tl.first s.top=.ok (t,i,n)/\elems s.top=(t,(s.top.drop i).take n) :: elems (s.top.drop (i+n))/\Tl.known (t:Nat)=true/\n<=65530/\s.top.take (i+n)=Tl.elem t ((s.top.drop i).take n) /\
  (∀ x∈(s.top.drop i).take n,x<256)/\((s.top.drop i).take n).length=n/\(Tl.made (t:Nat)=true->all ((s.top.drop i).take n).length ((s.top.drop i).take n)=.ok (elems ((s.top.drop i).take n))):=by
 obtain⟨k,h1,h2,h3⟩:=hs he;obtain⟨t,i,n,hq,hi,hin,hk,hn,hr,het,hmade⟩:=seen_first h2 hb;refine⟨t,i,n,hq,elems_cons h2 hb hq,hk,hn,het,fun x hx=>h2.1 x (List.mem_of_mem_drop (List.mem_of_mem_take hx)),?_,fun hm=>elems_all (hmade hm).2⟩;rw[List.length_take,List.length_drop];omega
theorem sane_none {s:Rd} (hs:Sane s) (he:s.e=0):elems s.top=[]↔s.top=[]:=by
 obtain⟨k,_,h2,_⟩:=hs he;exact elems_none h2
end De
namespace De
theorem onums_err28:∀ (f most:Nat) (l:List Nat) {k:Nat},Od.nums f most l=.error k->k<=28
 |f,_,[],_,h=>by cases f <;> simp[Od.nums]at h
 |0,_,_ :: _,k,h=>by
  have h2:0=k:=Except.error.inj h;omega
 |f+1,most,c :: l,k,h=>by
  rw[Od.nums]at h;cases hp:Od.piece (c :: l)with
  |none=>rw[hp]at h;have:=Except.error.inj h;omega
  |some p =>
   obtain⟨p,t⟩:=p;rw[hp]at h;have h:(if p.head?=some 128 then(Except.error 4:Except Nat (List Nat))else if most<Od.sval p then .error 1 else match Od.nums f 2147483647 t with
    |.error k=>.error k
    |.ok r=>.ok (Od.sval p :: r))=.error k:=h
   split at h
   ·have:=Except.error.inj h;omega
   ·split at h
    ·have:=Except.error.inj h;omega
    ·cases hn:Od.nums f 2147483647 t with
     |error e=>rw[hn]at h;obtain rfl:=Except.error.inj h;exact onums_err28 f _ t hn
     |ok r=>rw[hn]at h;exact absurd h (by simp)
theorem oget_err28 {l:List Nat} {k:Nat} (h:Od.get l=.error k):k<=28:=by
 unfold Od.get at h;cases hn:Od.nums l.length 2147483727 l with
 |error e=>rw[hn]at h;obtain rfl:=Except.error.inj h;exact onums_err28 _ _ l hn
 |ok r =>
  rw[hn]at h;cases r with
  |nil=>have:=Except.error.inj h;omega
  |cons n r =>
   revert h
   simp only;split
   ·intro h;exact absurd h (by simp)
   ·intro h;have:=Except.error.inj h;omega
theorem said_err28 {k least most:Int} {l:List Nat} {e:Nat} (h:De.said k least most l=.error e):e<=28:=by
 unfold De.said at h;split at h
 ·cases hw:Wh.get l with
  |error j =>
   rw[hw]at h;cases h
   revert hw
   unfold Wh.get
   repeat' split
   all_goals (intro hw;first|(have:=Except.error.inj hw;omega)|exact absurd hw (by simp))
  |ok n =>
   rw[hw]at h;simp only at h;split at h
   ·cases h;decide
   ·cases h
 split at h
 ·(repeat' split at h) <;> first|(cases h;decide)|cases h
 split at h
 ·(repeat' split at h) <;> first|(cases h;decide)|cases h
 split at h
 ·split at h
  ·cases h
  ·cases h;exact asked_le _ _
 split at h
 ·cases ho:Od.get l with
  |error j=>rw[ho]at h;cases h;exact oget_err28 ho
  |ok n=>rw[ho]at h;cases h
 split at h
 ·cases ho:Cal.get l with
  |error j =>
   rw[ho]at h;cases h;revert ho
   unfold Cal.get
   repeat' split
   all_goals (intro hw;first|(have:=Except.error.inj hw;omega)|exact absurd hw (by simp))
  |ok n=>rw[ho]at h;cases h
 ·cases ho:Pt.mask l with
  |error j =>
   rw[ho]at h;cases h;revert ho
   unfold Pt.mask
   repeat' split
   all_goals (intro hw;first|(have:=Except.error.inj hw;omega)|exact absurd hw (by simp))
  |ok n=>rw[ho]at h;cases h
theorem next_e28 {s:Rd} {tag:Int} (h:s.e<=28):(next s tag).1.e<=28:=by
 unfold next;split
 ·exact h
 ·cases hf:Tl.first s.top with
  |error e=>exact first_err28 hf
  |ok p =>
   obtain⟨t,i,n⟩:=p;simp only;split
   ·show 5<=28;decide
   ·exact h
theorem enter_e28 {s:Rd} {tag:Int} (h:s.e<=28):(enter s tag).1.e<=28:=by
 unfold enter;split
 ·exact h
 ·split
  ·show 5<=28;decide
  ·have:=next_e28 (tag:=tag) h;split
   ·rename_i hn;rw[hn]at this;exact this
   ·rename_i hn;rw[hn]at this;exact this
theorem leave_e28 {s:Rd} (h:s.e<=28):(leave s).e<=28:=by
 unfold leave;split
 ·exact h
 ·split
  ·show 24<=28;decide
  ·split
   ·show 4<=28;decide
   ·exact h
theorem ask_e28 {s:Rd} {k tag least most:Int} (h:s.e<=28):(ask s k tag least most).1.e<=28:=by
 unfold ask;split
 ·exact h
 split
 ·exact enter_e28 h
 split
 ·exact leave_e28 h
 split
 ·have:=next_e28 (tag:=0) h;split
  ·rename_i hn;rw[hn]at this;exact this
  ·rename_i hn;rw[hn]at this;exact this
 ·have:=next_e28 (tag:=tagOf k) h;split
  ·rename_i hn;rw[hn]at this;exact this
  ·rename_i hn
   rw[hn]at this;split
   ·rename_i he;exact said_err28 he
   ·exact this
theorem fin_e28 {s:Rd} (h:s.e<=28):fin s<=28:=by
 unfold fin;split
 ·exact h
 ·split
  ·decide
  ·split <;> decide
theorem start_e28 {b:List Nat}:(start b).e<=28:=by
 unfold start
 show(match Tl.levels b with
 |.error e=>e
 |.ok _=>0)<=28
 cases h:Tl.levels b with
 |error e=>exact levels_err28 h
 |ok n=>exact Nat.zero_le _
end De
structure AddR (W0:World) (F:Nat->Prop) (b:Nat) (tv:Value) (s:De.St) (x:Value) (l:List Nat) (w:World) (ra:Option Addr) (n c:Nat) (xs:List Value) (W:World):Prop where
 upto:Upto F w W
 cell:W.heap[b]?=some (.cells #[tv,.slice ra n c,.int .i64 0] 59 (0,0))
 rows:RowsW W0 (Ext F w W) b tv (.slice ra n c) s W
 le:n<=20
 own:W.ownsRow 0 81 1 (.slice ra n c) n xs
 levs:∀ k,k<=s.op.length->LevS (Im W0 (Ext F w W) b (.slice ra n c)) W (xs.getD k (.slice none 0 0)) (zAI s k)
 elem:Sup (Im W0 (Ext F w W) b (.slice ra n c)) W (fun W=>Bytes W x l/\Whole0 x)
theorem Sup.drewN {F:Nat->Prop} {w:World} {P:World->Prop} (h:Sup F w P) (n:Nat):Sup F (w.drewN n) P:=h.kept ⟨Nat.le_refl _,fun _ _=>rfl⟩
theorem Upto.drewN {F:Nat->Prop} {w w':World} (h:Upto F w w') (n:Nat):Upto F w (w'.drewN n):=⟨h.os,h.tape,h.output,h.size,h.block⟩
theorem LevS.drewN {F:Nat->Prop} {w:World} {x:Value} {L:List (List Nat)} (h:LevS F w x L) (m:Nat):LevS F (w.drewN m) x L:=by
 obtain⟨ys,h⟩:=h;exact⟨ys,h.drewN m⟩
theorem RowsW.drewN {W0:World} {F:Nat->Prop} {b:Nat} {tv rv:Value} {s:De.St} {w:World} (h:RowsW W0 F b tv rv s w) (m:Nat):RowsW W0 F b tv rv s (w.drewN m):=by
 obtain⟨n,xs,h1,h2,h3⟩:=h.rows;exact⟨h.rown,h.deep,h.room,h.tags.drewN m,n,xs,h1,h2,fun k hk=>(h3 k hk).drewN m⟩
section
variable {W0:World} {F:Nat->Prop} {b:Nat} {tv:Value} {s:De.St} {x:Value} {l:List Nat} {w:World} {ra:Option Addr} {n c:Nat} {xs:List Value} {W:World}
theorem AddR.drewN (h:AddR W0 F b tv s x l w ra n c xs W) (m:Nat):AddR W0 F b tv s x l w ra n c xs (W.drewN m) :=
 ⟨h.upto.drewN m,h.cell,h.rows.drewN m,h.le,h.own,fun k hk=>(h.levs k hk).drewN m,h.elem.drewN m⟩
theorem AddR.at2 (h:AddR W0 F b tv s x l w ra n c xs W) (hF:∀ k,F k->W0.heap.size<=k/\k<w.heap.size) (hm:F b) {A:Obj} {w2:World} (hg:(W.alloc A).grownBy w2 (Value.slice ra n c).ownBlock) :
  w2.heap[b]?=some (.cells #[tv,.slice ra n c,.int .i64 0] 59 (0,0)):=by
 have hbl:b<W.heap.size:=Nat.lt_of_lt_of_le (hF b hm).2 h.upto.size;rw[hg.block b (by rw[zAe];omega) (fun e=>(h.rows.rown b e.symm).2 rfl)]
 show(W.heap.push A)[b]?=_
 rw[Array.getElem?_push_lt hbl,<-h.cell,Array.getElem?_eq_getElem hbl]
theorem AddR.more (h:AddR W0 F b tv s x l w ra n c xs W) (hb:W0.grownBy w none) (hF:∀ k,F k->W0.heap.size<=k/\k<w.heap.size) (hm:F b) (hn:n<20) {A:Obj} {w2:World} {a2:Option Addr} {c2:Nat}
  (ho:w2.ownsRow 0 81 1 (.slice a2 (n+1) c2) (n+1) (xs++[.slice none 0 0])) (hg:(W.alloc A).grownBy w2 (Value.slice ra n c).ownBlock)
  (hv:(Value.slice a2 (n+1) c2).ownBlock=(Value.slice ra n c).ownBlock∨(Value.slice a2 (n+1) c2).ownBlock=some (W.alloc A).heap.size) :
  AddR W0 F b tv s x l w a2 (n+1) c2 (xs++[.slice none 0 0]) (w2.setCell ⟨b,1,none⟩ (.slice a2 (n+1) c2)):=by
 have hbW:W0.grownBy W none:=h.upto.base hb (fun k hk=>(hF k hk).1);have hFW:=zAo hb hF h.upto.size;obtain⟨k1,k2,k3⟩:=zIw hbW hFW (.inl hm) h.cell h.rows hn (fun h0=>by
  obtain⟨a,n',c',e,hlt⟩:=h.rows.room h0;simp only[Value.slice.injEq]at e;omega) h.levs ho hg hv
 have hs3:=k1.size;have eX:Ext (Ext F w W) W (w2.setCell ⟨b,1,none⟩ (.slice a2 (n+1) c2))=Ext F w (w2.setCell ⟨b,1,none⟩ (.slice a2 (n+1) c2)):=funext fun k=>propext (Ext.trans h.upto.size hs3 k)
 have hr:∀ k,k<W.heap.size->(Value.slice a2 (n+1) c2).ownBlock=some k->(Value.slice ra n c).ownBlock=some k:=fun k hk e=>by
  rcases hv with h'|h'
  ·rw[<-h'];exact e
  ·rw[h']at e;have:=Option.some.inj e;rw[zAe]at this;omega
 rw[eX]at k3;refine⟨h.upto.trans k1 (fun k hk hmu=>?_),k2,k3,hn,zAL ho (fun e=>?_),fun k hk=>?_,?_⟩
 ·rcases hmu with rfl|hmu
  ·exact hm
  ·rcases(h.rows.rown k hmu).1 with h'|h'
   ·exact h'
   ·omega
 ·exact(h.rows.rown b (hr b (Nat.lt_of_lt_of_le (hF b hm).2 h.upto.size) e)).2 rfl
 ·rw[zGX];have:=(h.levs k hk).keep hbW hFW k1 hr;rwa [eX]at this
 ·have:=zCh hbW hFW h.elem k1 hr;rwa [eX]at this
end
theorem AddR.inner {W0:World} {F:Nat->Prop} {b:Nat} {tv:Value} {s:De.St} {x:Value} {l:List Nat} {w:World} {ra:Option Addr} {n c:Nat} {xs:List Value} {W:World} (h:AddR W0 F b tv s x l w ra n c xs W) {K:Nat} (hK:K=s.op.length) (hn:K<n) :
  ∃ g la ln lc ys,ra=some ⟨g,0,none⟩/\xs.getD K (.slice none 0 0)=.slice la ln lc/\W.cell? ⟨g,K,none⟩=some (.slice la ln lc)/\W.frozen? ⟨g,K,none⟩=false/\g<W.heap.size/\Sup (Im W0 (Ext F w W) b (.slice ra n c)) W (Lev (.slice la ln lc) ys (zAI s K)):=by
 obtain⟨ys,hs⟩:=h.levs K (by omega);obtain⟨la,sb,so,lc,he,_⟩:=hs.now.1;have hl:=h.own.1;rcases h.own.2 with⟨_,h0⟩|⟨g,cap,cur,h4,_,h5,_,_,h6,h7⟩
 ·omega
 ·simp only[Value.slice.injEq]at h4;obtain⟨rfl,_,_⟩:=h4;rw[he]at hs;refine⟨g,la,_,lc,ys,rfl,he,cell_blk h5 K ?_,zAh h5 K,zAi h5,hs⟩;rw[<-he];have hk2:xs[K]?=some (xs.getD K (.slice none 0 0)):=by
   rw[List.getD_eq_getElem?_getD,List.getElem?_eq_getElem (by omega)];rfl
  rw[<-hk2,<-h7,List.getElem?_take,if_pos (by omega)];simp
theorem AddR.put {W0:World} {F:Nat->Prop} {b:Nat} {tv:Value} {s:De.St} {x:Value} {l:List Nat} {w:World} {g n c:Nat} {xs ys:List Value} {W w1:World} {v1:Value} {K:Nat} (h:AddR W0 F b tv s x l w (some ⟨g,0,none⟩) n c xs W)
  (hb:W0.grownBy w none) (hF:∀ k,F k->W0.heap.size<=k/\k<w.heap.size) (hm:F b) (he:s.e=0) (hK:K=s.op.length) (hn:K<n) (hy:Sup (Im W0 (Ext F w W) b (.slice (some ⟨g,0,none⟩) n c)) W (Lev (xs.getD K (.slice none 0 0)) ys (zAI s K)))
  (h1:FrV W w1 v1 (ys++[x])):Upto F w (w1.setCell ⟨g,K,none⟩ v1)/\RefW W0 (Ext F w (w1.setCell ⟨g,K,none⟩ v1)) b (De.add s l) (w1.setCell ⟨g,K,none⟩ v1):=by
 have hbW:W0.grownBy W none:=h.upto.base hb (fun k hk=>(hF k hk).1);have hFW:=zAo hb hF h.upto.size;obtain⟨k1,k2,k3⟩:=zJ3 hbW hFW h.cell h.rows hK hn h.le h.own h.levs hy h.elem h1;have hs3:=k1.size;have eX:Ext (Ext F w W) W (w1.setCell ⟨g,K,none⟩ v1)=Ext F w (w1.setCell ⟨g,K,none⟩ v1):=funext fun k=>propext (Ext.trans h.upto.size hs3 k)
 rw[eX]at k3;have hu:Upto F w (w1.setCell ⟨g,K,none⟩ v1):=h.upto.trans k1 (fun k hk hmu=>by
  rcases hmu with rfl|hmu
  ·exact hm
  ·rcases(h.rows.rown k hmu).1 with h'|h'
   ·exact h'
   ·omega)
 exact⟨hu,hu.base hb (fun k hk=>(hF k hk).1),zAo hb hF hu.size,.inl hm,_,_,by rw[zLT,he];exact k2,fun _=>k3⟩
theorem zBg {W w10:World} {v:Value} {g:Nat} {x:Value} {t:TypeId} (hg:W.grownBy w10 v.ownBlock) (hb:W.heap[g]?=some (.cells #[x] t (0,0))) (hv:v.ownBlock≠some g):Vals w10 (.slice (some ⟨g,0,none⟩) 1 1) [x] :=
 Vals.lit (xs:=[x]) ((hg.block g (zAi hb) (fun e=>hv e.symm)).trans hb)
theorem zF5 (W0:World) (F:Nat->Prop) (b:Nat) (s:De.St) (w:World) (x:Value) (l:List Nat) (tv rv:Value) (hb:W0.grownBy w none) (hF:∀ k,F k->W0.heap.size<=k/\k<w.heap.size) (hm:F b)
  (hc:w.heap[b]?=some (.cells #[tv,rv,.int .i64 0] 59 (0,0))) (he:s.e=0) (hR:RowsW W0 F b tv rv s w) (hx:Sup (Im W0 F b rv) w (fun W=>Bytes W x l/\Whole0 x)) (hsm:∀ k,(zAI s k).length<=2000) :
  Calls prog 59 #[.pointer (some ⟨b,0,none⟩),x] w fun e w'=>e=.returned (.tuple #[])/\Upto F w w'/\RefW W0 (Ext F w w') b (De.add s l) w':=by
 have hE0:∀ k,Ext F w w k↔F k:=Ext.refl_iff F w
 have eE:Ext F w w=F:=funext fun k=>propext (hE0 k)
 obtain⟨n0,xs0,hn0,ho0,hl0⟩:=hR.rows;have hrv:∃ ra c,rv=.slice ra n0 c:=by
  obtain⟨a,g,c,h,_⟩:=zAl ho0;exact⟨a,c,h⟩
 obtain⟨ra0,c0,rfl⟩:=hrv;have HS:Hid (AddR W0 F b tv s x l w ra0 n0 c0 xs0 w):=hid ⟨Upto.refl F w,hc,by rw[eE];exact hR,hn0,ho0,by rw[eE];exact hl0,by rw[eE];exact hx⟩;have hxf:∃ xa xn xc,x=.slice xa xn xc:=by
  obtain⟨_,a,_,_,c,h,_⟩:=hx.now.1;exact⟨a,_,c,h⟩
 obtain⟨xa,xn,xc,rfl⟩:=hxf;have htv:∃ ta tc,tv=.slice ta s.op.length tc:=by
  obtain⟨a,sb,so,c,h,_⟩:=hR.tags.now.1;rw[zAJ]at h;exact⟨a,c,h⟩
 obtain⟨ta,tc,rfl⟩:=htv;have hd:=hR.deep;obtain⟨K,hK⟩:∃ K,K=s.op.length:=⟨_,rfl⟩
 rw[<-hK]at HS hd;have HK:=hid hK;have HB:=hid hb;have HFo:=hid hF;have HSm:=hid hsm;clear hc hR hx hn0 ho0 hl0 hE0 eE hK hb hF hsm;go_enter func59,ntmps59
 go_wp2
 go_loopw [5] (fun _ W=>∃ ra n c xs,Hid (AddR W0 F b (.slice ta K tc) s (.slice xa xn xc) l w ra n c xs W)) (fun _ W=>30-zEg b W)
 case atStart=>exact⟨_,_,_,_,HS⟩
 case round =>
  obtain⟨ra,n,c,xs,H⟩:=hrel;have q0:wr.cell? ⟨b,0,none⟩=some (.slice ta K tc):=cell_blk H.out.cell 0 rfl;have q1:wr.cell? ⟨b,1,none⟩=some (.slice ra n c):=cell_blk H.out.cell 1 rfl;have hn:=H.out.le;by_cases hnk:n<=K
  ·have hnz:(n:Int)<=(K:Int):=by omega
   go_wp2
   go_quiet (fail)
   have H':Hid (AddR W0 F b (.slice ta K tc) s (.slice xa xn xc) l w ra n c xs (wr.drewN nq)):=hid (H.out.drewN nq);have hs:(wr.drewN nq).heap.size=wr.heap.size:=rfl;rw[<-hs]at *;generalize wr.drewN nq=wq at *;have HV:Hid (Vals (wq.alloc (.cells #[.slice none 0 0] 81)) (.slice (some ⟨wq.heap.size,0,none⟩) 1 1) [.slice none 0 0]):=hid (Vals.lit (xs:=[.slice none 0 0]) (alloc_at wq _));have HO:Hid ((wq.alloc (.cells #[.slice none 0 0] 81)).ownsRow 0 81 1 (.slice ra n c) n xs):=hid (H'.out.own.alloc _);have HI:=hid iV;have q0':wq.cell? ⟨b,0,none⟩=some (.slice ta K tc):=cell_blk H'.out.cell 0 rfl;have q1':wq.cell? ⟨b,1,none⟩=some (.slice ra n c):=cell_blk H'.out.cell 1 rfl;go_wp2_with (at_builtin;refine zAO (by rfl) (.tmp 20) (.tmp 21) 57 (by rfl) 0 81 (.slice none 0 0) 24 underlying57 HI.out rfl (by decide) _ _ _ (by rfl) HO.out _ [.slice none 0 0] (by rfl) HV.out (Whole0.some _ _ _) (by simp[Value.oneCell']) (by simp;omega) (Nat.zero_le _) ?_;intro v2 w2 ho2 hg2 hv2;obtain⟨a2,g2,c2,hf2,hX1,hX2,hX3,hX4⟩:=zAl ho2;clear hX1 hX2 hX3 hX4;subst hf2;have HN:=hid (H'.out.more HB.out HFo.out hm (by omega) ho2 hg2 hv2);have p0:=H'.out.at2 HFo.out hm hg2;have p1:=cell_blk p0 1 rfl;have p2:=zAh p0 1;clear p0 ho2 hg2 hv2)
   go_roundw
   case rel=>exact⟨_,_,_,_,HN⟩
   case measure =>
    rw[zB5 (cell_blk HN.out.cell 1 rfl),zB5 q1];omega
  ·have hnz:¬(n:Int)<=(K:Int):=by omega
   obtain⟨g,la,ln,lc,ys,rfl,hlv,hc1,hf1,hgl,hsy⟩:=H.out.inner HK.out (by omega);obtain⟨hV,hE,hW0⟩:=hsy.now;go_wp2
   go_quiet (fail)
   have H':Hid (AddR W0 F b (.slice ta K tc) s (.slice xa xn xc) l w (some ⟨g,0,none⟩) n c xs (wr.drewN nq)):=hid (H.out.drewN nq);have hs:(wr.drewN nq).heap.size=wr.heap.size:=rfl;have HS':Hid (Sup (Im W0 (Ext F w (wr.drewN nq)) b (.slice (some ⟨g,0,none⟩) n c)) (wr.drewN nq) (Lev (xs.getD K (.slice none 0 0)) ys (zAI s K))):=hid (by rw[hlv];exact hsy.drewN nq);have hV':Vals (wr.drewN nq) (.slice la ln lc) ys:=hV;have hE':Each (wr.drewN nq) ys (zAI s K):=hE.grown (zAd (zAa _ _) _);have hc1':(wr.drewN nq).cell? ⟨g,K,none⟩=some (.slice la ln lc):=hc1;have hf1':(wr.drewN nq).frozen? ⟨g,K,none⟩=false:=hf1;rw[<-hs]at hgl;clear hV hE hc1 hf1 q0 q1 H hs hsy;generalize wr.drewN nq=W at *;have q0:W.cell? ⟨b,0,none⟩=some (.slice ta K tc):=cell_blk H'.out.cell 0 rfl;have hcb:W.cell? ⟨b,1,none⟩=some (.slice (some ⟨g,0,none⟩) n c):=cell_blk H'.out.cell 1 rfl;have hgb:g≠b:=(H'.out.rows.rown g rfl).2;have hKS:∀ w',W.grownBy w' none->w'.cell? ⟨b,1,none⟩=some (.slice (some ⟨g,0,none⟩) n c):=fun w' hg'=>(World.cell?_of_block (hg'.block _ (World.block_lt_of_cell? W _ hcb) (by simp))).trans hcb
   have hKG:∀ w',W.grownBy w' none->w'.cell? ⟨g,K,none⟩=some (.slice la ln lc):=fun w' hg'=>(World.cell?_of_block (hg'.block _ hgl (by simp))).trans hc1'
   have e0:=hKG _ (zAa _ _);have e1:=hKG _ (zAc (o:=.cells #[] 33) (zAa _ _));have e2:=hKG _ (zAc (o:=.cells #[.slice xa xn xc] 33) (zAa _ _));have e3:=hKG _ (zAc (o:=.cells #[.slice xa xn xc] 33) (zAc (o:=.cells #[] 33) (zAa _ _)));have e4:=hKG _ (zAc (o:=.cells #[] 33) (zAc (o:=.cells #[.slice xa xn xc] 33) (zAa _ _)));have KS:=hid hKS;have KG:=hid hKG;have HV1:=hid hV';have HE1:=hid hE';have HW0:=hid hW0;have hyl:ys.length=(zAI s K).length:=hE'.len;have HYl:Hid (ys.length<=2000):=hid (by rw[hyl];exact HSm.out K);have HOne:=hid hE'.one;have hx:=H'.out.elem.now;have HI:=hid iV;have gd:W.grownBy W.drew none:=zAd (zAa _ _) 1;have GD:=hid gd;have FA1:Hid (FrV W (W.alloc (.cells #[] 33)).drew (.slice (some ⟨W.heap.size,0,none⟩) 0 0) []):=hid ⟨zAd (FrV.first W).grown 1,(FrV.first W).own⟩;have FA2:Hid (FrV W ((W.alloc (.cells #[] 33)).alloc (.cells #[.slice xa xn xc] 33)).drew (.slice (some ⟨W.heap.size,0,none⟩) 0 0) []):=hid ⟨zAd ((FrV.first W).alloc _).grown 1,((FrV.first W).alloc _).own⟩;have FA3:Hid (FrV W ((W.alloc (.cells #[.slice xa xn xc] 33)).alloc (.cells #[] 33)).drew (.slice (some ⟨W.heap.size+1,0,none⟩) 0 0) []):=hid (by
    have h1:=FrV.first (W.alloc (.cells #[.slice xa xn xc] 33));rw[zAe]at h1;exact⟨zAd (zAc (zAc (zAa _ _) _) _) 1,zBy h1.own (by rw[zAe];omega)⟩)
   have P12:Hid (((W.alloc (.cells #[] 33)).alloc (.cells #[.slice xa xn xc] 33)).drew.heap[W.heap.size+1]?=some (.cells #[.slice xa xn xc] 33 (0,0))):=hid (by
    have:=alloc_at (W.alloc (.cells #[] 33)) (.cells #[.slice xa xn xc] 33);rwa [zAe]at this)
   have P21:Hid (((W.alloc (.cells #[.slice xa xn xc] 33)).alloc (.cells #[] 33)).drew.heap[W.heap.size]?=some (.cells #[.slice xa xn xc] 33 (0,0))):=hid (zAt (alloc_at W _));clear hKS hKG hcb hV' hE' hW0 hc1' gd hx hyl;go_wp2
   refine wp_region_held_drew (S:=(fun w'=>w'.cell? ⟨b,1,none⟩=some (.slice (some ⟨g,0,none⟩) n c))) (by kernel_rfl) (by first|(dsimp only;(first|exact KS.out _ GD.out|exact KS.out _ (zAd (zAc (zAa _ _) _) 1)|exact KS.out _ (zAd (zAc (zAc (zAa _ _) _) _) 1)|exact KS.out _ K11.out|exact KS.out _ K10.out|exact KS.out _ (zAc K10.out _)|(rw[World.cell?_setCell_far _ _ _ _ hgb];exact KS.out _ K11.out)))|(first|exact KS.out _ GD.out|exact KS.out _ (zAd (zAc (zAa _ _) _) 1)|exact KS.out _ (zAd (zAc (zAc (zAa _ _) _) _) 1)|exact KS.out _ K11.out|exact KS.out _ K10.out|exact KS.out _ (zAc K10.out _)|(rw[World.cell?_setCell_far _ _ _ _ hgb];exact KS.out _ K11.out))) (fun hHeld=>?_);refine wpAnyH_take (i:=0) (oi:=({ dst:=_,op:=_,type:=_,pos:=_,after:=_,guard:=_ }:Oper)) (v:=?_) rfl (by kernel_rfl) (by kernel_rfl) (by kernel_rfl) (fun _ _ _ h=>h) (Or.inl ⟨by rfl,?_⟩) (by assumption) ?_
   rotate_left
   focus (intro w hSw;(try dsimp only at hSw);go_simp;try with_reducible rfl)
   try simp only[Act.put,List.setIfInBounds_toArray,List.set_cons_zero,List.set_cons_succ]
   refine wpAnyH_take (i:=1) (oi:=({ dst:=_,op:=_,type:=_,pos:=_,after:=_,guard:=_ }:Oper)) (v:=?_) rfl (by kernel_rfl) (by kernel_rfl) (by kernel_rfl) (fun _ _ _ h=>h) (Or.inl ⟨by rfl,?_⟩) (by assumption) ?_
   rotate_left
   focus (intro w hSw;(try dsimp only at hSw);go_simp;try with_reducible rfl)
   try simp only[Act.put,List.setIfInBounds_toArray,List.set_cons_zero,List.set_cons_succ]
   refine wpAnyH_take (i:=2) (oi:=({ dst:=_,op:=_,type:=_,pos:=_,after:=_,guard:=_ }:Oper)) (v:=?_) rfl (by kernel_rfl) (by kernel_rfl) (by kernel_rfl) (fun _ _ _ h=>h) (Or.inl ⟨by rfl,?_⟩) (by assumption) ?_
   rotate_left
   focus (intro w hSw;(try dsimp only at hSw);go_simp;try with_reducible rfl)
   try simp only[Act.put,List.setIfInBounds_toArray,List.set_cons_zero,List.set_cons_succ]
   refine wpAnyH_take (i:=3) (oi:=({ dst:=_,op:=_,type:=_,pos:=_,after:=_,guard:=_ }:Oper)) (v:=?_) rfl (by kernel_rfl) (by kernel_rfl) (by kernel_rfl) (fun _ _ _ h=>h) (Or.inl ⟨by rfl,?_⟩) (by assumption) ?_
   rotate_left
   focus (intro w hSw;(try dsimp only at hSw);go_simp;try with_reducible rfl)
   try simp only[Act.put,List.setIfInBounds_toArray,List.set_cons_zero,List.set_cons_succ]
   refine wpAnyH_take (i:=4) (oi:=({ dst:=_,op:=_,type:=_,pos:=_,after:=_,guard:=_ }:Oper)) (v:=?_) rfl (by kernel_rfl) (by kernel_rfl) (by kernel_rfl) (fun _ _ _ h=>h) (Or.inl ⟨by rfl,?_⟩) (by assumption) ?_
   rotate_left
   focus (intro w hSw;(try dsimp only at hSw);go_simp;try with_reducible rfl)
   try simp only[Act.put,List.setIfInBounds_toArray,List.set_cons_zero,List.set_cons_succ]
   refine wpAnyH_take (i:=6) (oi:=({ dst:=_,op:=_,type:=_,pos:=_,after:=_,guard:=_ }:Oper)) (v:=?_) rfl (by kernel_rfl) (by kernel_rfl) (by kernel_rfl) (fun _ _ _ h=>h) (Or.inl ⟨by rfl,?_⟩) (by assumption) ?_
   rotate_left
   focus (intro w hSw;(try dsimp only at hSw);go_simp;try with_reducible rfl)
   try simp only[Act.put,List.setIfInBounds_toArray,List.set_cons_zero,List.set_cons_succ]
   refine wpAnyH_take (i:=7) (oi:=({ dst:=_,op:=_,type:=_,pos:=_,after:=_,guard:=_ }:Oper)) (v:=?_) rfl (by kernel_rfl) (by kernel_rfl) (by kernel_rfl) (fun _ _ _ h=>h) (Or.inl ⟨by rfl,?_⟩) (by assumption) ?_
   rotate_left
   focus (intro w hSw;(try dsimp only at hSw);go_simp;try with_reducible rfl)
   try simp only[Act.put,List.setIfInBounds_toArray,List.set_cons_zero,List.set_cons_succ]
   refine wpAnyH_take (i:=8) (oi:=({ dst:=_,op:=_,type:=_,pos:=_,after:=_,guard:=_ }:Oper)) (v:=?_) rfl (by kernel_rfl) (by kernel_rfl) (by kernel_rfl) (fun _ _ _ h=>h) (Or.inl ⟨by rfl,?_⟩) (by assumption) ?_
   rotate_left
   focus (intro w hSw;(try dsimp only at hSw);go_simp;try with_reducible rfl)
   try simp only[Act.put,List.setIfInBounds_toArray,List.set_cons_zero,List.set_cons_succ]
   refine wpAnyH_take (i:=9) (oi:=({ dst:=_,op:=_,type:=_,pos:=_,after:=_,guard:=_ }:Oper)) (v:=?_) rfl (by kernel_rfl) (by kernel_rfl) (by kernel_rfl) (fun _ _ _ h=>h) (Or.inl ⟨by rfl,?_⟩) (by assumption) ?_
   rotate_left
   focus (intro w hSw;(try dsimp only at hSw);go_simp;try with_reducible rfl)
   try simp only[Act.put,List.setIfInBounds_toArray,List.set_cons_zero,List.set_cons_succ]
   refine wpAnyH_take (i:=10) (oi:=({ dst:=_,op:=_,type:=_,pos:=_,after:=_,guard:=_ }:Oper)) (v:=?_) rfl (by kernel_rfl) (by kernel_rfl) (by kernel_rfl) (fun _ _ _ h=>h) (Or.inl ⟨by rfl,?_⟩) (by assumption) ?_
   rotate_left
   focus (intro w hSw;(try dsimp only at hSw);go_simp;try with_reducible rfl)
   try simp only[Act.put,List.setIfInBounds_toArray,List.set_cons_zero,List.set_cons_succ]
   refine wpAnyH_take (i:=11) (oi:=({ dst:=_,op:=_,type:=_,pos:=_,after:=_,guard:=_ }:Oper)) (v:=?_) rfl (by kernel_rfl) (by kernel_rfl) (by kernel_rfl) (fun _ _ _ h=>h) (Or.inl ⟨by rfl,?_⟩) (by assumption) ?_
   rotate_left
   focus (intro w hSw;(try dsimp only at hSw);go_simp;try with_reducible rfl)
   try simp only[Act.put,List.setIfInBounds_toArray,List.set_cons_zero,List.set_cons_succ]
   refine wpAnyH_take (i:=14) (oi:=({ dst:=_,op:=_,type:=_,pos:=_,after:=_,guard:=_ }:Oper)) (v:=?_) rfl (by kernel_rfl) (by kernel_rfl) (by kernel_rfl) (fun _ _ _ h=>h) (Or.inl ⟨by rfl,?_⟩) (by assumption) ?_
   rotate_left
   focus (intro w hSw;(try dsimp only at hSw);go_simp;try with_reducible rfl)
   try simp only[Act.put,List.setIfInBounds_toArray,List.set_cons_zero,List.set_cons_succ]
   repeat' first
    |(refine wpAnyH_done (by decide +kernel) ?_ _)
    |(refine wpAnyH_take (i:=17) (oi:=({ dst:=_,op:=_,type:=_,pos:=_,after:=_,guard:=_ }:Oper)) (v:=?_) rfl (by kernel_rfl) (by kernel_rfl) (by decide +kernel) (fun _ _ _ h=>h) (Or.inl ⟨by rfl,?_⟩) (by assumption) ?_;rotate_left;focus (intro w hSw;(try dsimp only at hSw);go_simp;try with_reducible rfl);try simp only[Act.put,List.setIfInBounds_toArray,List.set_cons_zero,List.set_cons_succ])
    |(refine wpAnyH_ready (rs:=[5,12,15]) (by decide +kernel) (by simp) ?_)
    |(refine wpAnyH_ready (rs:=[5,15]) (by decide +kernel) (by simp) ?_)
    |(refine wpAnyH_ready (rs:=[12,15]) (by decide +kernel) (by simp) ?_)
    |(refine wpAnyH_ready (rs:=[13,15]) (by decide +kernel) (by simp) ?_)
    |(refine wpAnyH_ready (rs:=[5,12]) (by decide +kernel) (by simp) ?_)
    |(refine wpAnyH_ready (rs:=[12]) (by decide +kernel) (by simp) ?_)
    |(refine wpAnyH_ready (rs:=[18]) (by decide +kernel) (by simp) ?_)
    |(refine wpAnyH_ready (rs:=[13]) (by decide +kernel) (by simp) ?_)
    |(refine wpAnyH_ready (rs:=[15]) (by decide +kernel) (by simp) ?_)
    |(refine wpAnyH_ready (rs:=[5]) (by decide +kernel) (by simp) ?_)
    |(refine wpAnyH_ready (rs:=[16]) (by decide +kernel) (by simp) ?_)
    |exact AllReadyH.nil
    |(refine AllReadyH.cons (o:=({ dst:=_,op:=_,type:=_,pos:=_,after:=_,guard:=_ }:Oper)) rfl (fun Kq hKq=>?_) ?_;(focus ((first|((first|(refine zBh (by rfl) (.tmp 35) (.tmp 42) 81 (by rfl) W.heap.size 33 (.slice none 0 0) 24 underlying81 (by kernel_rfl) rfl (by decide) _ 0 [] (by rfl) (by first|exact FA1.out.own|exact FA2.out.own|exact FA3.out.own) _ ys (by rfl) (HV1.out.grown (by first|exact FA1.out.grown|exact FA2.out.grown|exact FA3.out.grown)) HW0.out HOne.out (by have:=HYl.out;simp;omega) (by first|exact FA1.out.grown.size|exact FA2.out.grown.size|exact FA3.out.grown.size) ?_;intro v10 w10 ho10 hg10;have F10:Hid (FrV W w10 v10 ([]++ys)):=(by first|exact hid (FA1.out.step ho10 hg10)|exact hid (FA2.out.step ho10 hg10)|exact hid (FA3.out.step ho10 hg10));have G10:=hid hg10;have K10:Hid (W.grownBy w10 none):=hid F10.out.grown;clear ho10 hg10)|(refine zBh (by rfl) (.tmp 43) (.tmp 45) 81 (by rfl) W.heap.size 33 (.slice none 0 0) 24 underlying81 (by kernel_rfl) rfl (by decide) _ _ _ (by rfl) (by first|exact F10.out.own|exact(F10.out.alloc _).own) _ [.slice xa xn xc] (by rfl) (by first|exact Vals.lit (xs:=[.slice xa xn xc]) (alloc_at w10 _)|exact zBg G10.out P12.out (by intro e;have:=Option.some.inj (show some W.heap.size=some (W.heap.size+1)from e);omega)|exact zBg G10.out P21.out (by intro e;have:=Option.some.inj (show some (W.heap.size+1)=some W.heap.size from e);omega)) (Whole0.some _ _ _) (by intro u hu;rw[List.mem_singleton]at hu;subst hu;rfl) (by have:=HYl.out;simp;omega) (by first|exact F10.out.grown.size|exact(F10.out.alloc _).grown.size) ?_;intro v11 w11 ho11 hg11;obtain⟨a11,g11,c11,hv11,hX1,hX2,hX3,hX4⟩:=zAl ho11;clear hX1 hX2 hX3 hX4;subst hv11;have F11:Hid (FrV W w11 _ (([]++ys)++[.slice xa xn xc])):=(by first|exact hid (F10.out.step ho11 hg11)|exact hid ((F10.out.alloc _).step ho11 hg11));have K11:Hid (W.grownBy w11 none):=hid F11.out.grown;have e11:=KG.out _ K11.out;have fz11:=(World.frozen?_of_block (K11.out.block _ hgl (by simp)) (a:=⟨g,K,none⟩)).trans hf1';clear ho11 hg11)))|go_simp);(refine hKq.out _ _ (by first|(dsimp only;(first|exact KS.out _ GD.out|exact KS.out _ (zAd (zAc (zAa _ _) _) 1)|exact KS.out _ (zAd (zAc (zAc (zAa _ _) _) _) 1)|exact KS.out _ K11.out|exact KS.out _ K10.out|exact KS.out _ (zAc K10.out _)|(rw[World.cell?_setCell_far _ _ _ _ hgb];exact KS.out _ K11.out)))|(first|exact KS.out _ GD.out|exact KS.out _ (zAd (zAc (zAa _ _) _) 1)|exact KS.out _ (zAd (zAc (zAc (zAa _ _) _) _) 1)|exact KS.out _ K11.out|exact KS.out _ K10.out|exact KS.out _ (zAc K10.out _)|(rw[World.cell?_setCell_far _ _ _ _ hgb];exact KS.out _ K11.out))) (fun hHeld=>?_));(clear hKq Kq);(try simp only[Act.put,List.setIfInBounds_toArray,List.set_cons_zero,List.set_cons_succ]))))
   all_goals (obtain⟨k1,k2⟩:=H'.out.put HB.out HFo.out hm he HK.out (by omega) HS'.out (show FrV W w11 (.slice a11 (ys.length+1) c11) (ys++[.slice xa xn xc])from F11.out);first|(show bodyPost _ _ _ _ _ _;go_wp2;exact⟨rfl,k1,k2⟩)|exact⟨rfl,.tuple #[],rfl,rfl,k1,k2⟩|exact⟨rfl,.tuple #[],by kernel_rfl,rfl,k1,k2⟩)
section
variable {W0 w w2:World} {F:Nat->Prop} {b:Nat} {tv rv:Value} {s:De.St}
theorem RowsW.grow (h:RowsW W0 F b tv rv s w) (hb:W0.grownBy w none) (hF:∀ k,F k->W0.heap.size<=k/\k<w.heap.size) (hg:w.grownBy w2 none):RowsW W0 (Ext F w w2) b tv rv s w2:=by
 have hu:Upto (Mut b rv) w w2:=Upto.of_grown _ hg;obtain⟨n,xs,hn,ho,hl⟩:=h.rows;exact⟨fun k hk=>⟨.inl (h.rown k hk).1,(h.rown k hk).2⟩,h.deep,h.room,zCh hb hF h.tags hu (fun _ _ e=>e),n,xs,hn,ho.kept hg (Classical.em _),fun k hk=>(hl k hk).keep hb hF hu (fun _ _ e=>e)⟩
theorem RefW.grow (h:RefW W0 F b s w) (hg:w.grownBy w2 none):RefW W0 (Ext F w w2) b s w2:=by
 obtain⟨tv,rv,h1,h2⟩:=h.body;exact⟨zAV h.base hg,zAo h.base h.own hg.size,.inl h.mem,tv,rv,(hg.block b (h.own b h.mem).2 (by simp)).trans h1,fun he=>(h2 he).grow h.base h.own hg⟩
theorem RefW.err (h:RefW W0 F b s w) (n:Nat) (hn:n≠0):Upto F w (w.setCell ⟨b,2,none⟩ (.int .i64 n))/\RefW W0 (Ext F w (w.setCell ⟨b,2,none⟩ (.int .i64 n))) b { s with e:=n } (w.setCell ⟨b,2,none⟩ (.int .i64 n)):=by
 obtain⟨tv,rv,h1,_⟩:=h.body;have hs:(w.setCell ⟨b,2,none⟩ (.int .i64 n)).heap.size=w.heap.size:=zAk _ _ _;have hu:Upto F w (w.setCell ⟨b,2,none⟩ (.int .i64 n)):=⟨rfl,rfl,rfl,by omega,fun k hk hmu=>Below.heap_setCell _ _ _ _ (fun e=>hmu (by rw[e];exact h.mem))⟩;refine⟨hu,hu.base h.base (fun k hk=>(h.own k hk).1),zAo h.base h.own hu.size,.inl h.mem,tv,rv,?_,fun he=>absurd he hn⟩;have:=zAm (i:=2) h1 (.int .i64 n);simpa using this
end
theorem zDV {W0 w w2:World} {F:Nat->Prop} {b:Nat} {s:De.St} {x:Value} {l:List Nat} (h:RefW W0 F b s w) (he:s.e=0) (hsm:∀ k,(zAI s k).length<=2000) (hg:w.grownBy w2 none)
  (hx:Sup (fun k=>w.heap.size<=k/\k<w2.heap.size) w2 (fun W=>Bytes W x l/\Whole0 x)) :
  Calls prog 59 #[.pointer (some ⟨b,0,none⟩),x] w2 fun e w'=>e=.returned (.tuple #[])/\Upto F w w'/\RefW W0 (Ext F w w') b (De.add s l) w':=by
 have h2:=h.grow hg;obtain⟨tv,rv,h3,h4⟩:=h2.body;have hR:=h4 he;rw[he]at h3;have hs:=hg.size;have h0:=h.base.size;refine(zF5 W0 (Ext F w w2) b s w2 x l tv rv h2.base h2.own h2.mem h3 he hR ?_ hsm).mono ?_
 ·refine hx.mono (fun k hk=>⟨.inl (.inr hk),fun e=>?_,fun e=>?_⟩) (zDB (F:=F) h.base h.own hs)
  ·have:=(h.own b h.mem).2;omega
  ·obtain⟨tv1,rv1,h5,h6⟩:=h.body;have h7:=(hg.block b (h.own b h.mem).2 (by simp)).trans h5;rw[h3]at h7;simp only[Option.some.injEq,Obj.cells.injEq,Array.mk.injEq,List.cons.injEq]at h7;have h8:=(h.own k ((h6 he).rown k (by rw[<-h7.1.2.1];exact e)).1).2;omega
 ·rintro e w' ⟨rfl,k1,k2⟩;have eX:Ext (Ext F w w2) w2 w'=Ext F w w':=funext fun k=>propext (Ext.trans hs k1.size k)
  rw[eX]at k2;exact⟨rfl,(Upto.of_grown F hg).trans k1 (fun k hk hf=>by
   rcases hf with hf|hf
   ·exact hf
   ·omega),k2⟩
def opd (s:De.St) (t:Nat):De.St:={ s with op:=(t,[]) :: s.op }
theorem zCI (s:De.St) (t:Nat):zAZ (opd s t)=zAZ s++[(t:Int)]:=by simp[zAZ,opd]
theorem zBY (s:De.St) (t:Nat) (k:Nat) (hk:k<=s.op.length+1):zAI (opd s t) k=if k=s.op.length+1 then []else zAI s k:=by
 obtain⟨e,op,dn⟩:=s
 show zAI ⟨e,(t,[]) :: op,dn⟩ k=_
 unfold zAI;simp only[List.reverse_cons]at hk ⊢;by_cases h0:k=0
 ·subst h0;simp
 ·rw[if_neg h0,if_neg h0];by_cases hq:k=op.length+1
  ·subst hq;simp[List.getD_eq_getElem?_getD]
  ·rw[if_neg hq];have:k-1<op.reverse.length:=by simp;omega
   simp only[List.getD_eq_getElem?_getD];rw[List.getElem?_append_left this]
section
variable {W0 w w1 w':World} {F:Nat->Prop} {b:Nat} {tv rv v1:Value} {s:De.St}
theorem zIv {n t:Nat} {xs:List Value} (hb:W0.grownBy w none) (hF:∀ k,F k->W0.heap.size<=k/\k<w.heap.size)
  (hm:F b) (hR:RowsW W0 F b tv rv s w) (hn:n<=20) (hd:s.op.length+1<=16) (hn2:s.op.length+1<n)
  (ho:w.ownsRow 0 81 1 rv n xs)
  (hl:∀ k,k<=s.op.length->LevS (Im W0 F b rv) w (xs.getD k (.slice none 0 0)) (zAI s k))
  (h1:w.grownBy w1 none) (o1:w1.ownsRow w.heap.size 3 1 v1 (s.op.length+1) (cellsI (zAZ s++[(t:Int)])))
  (hu1:Upto (Mut b rv) w1 w') (hr1:w'.ownsRow 0 81 1 rv n (xs.set (s.op.length+1) (.slice none 0 0))) :
  Upto (Mut b rv) w w'/\RowsW W0 (Ext F w w') b v1 rv (opd s t) w':=by
 have hu:Upto (Mut b rv) w w':=(Upto.of_grown _ h1).trans hu1 (fun _ _ h=>h);have hs1:=h1.size;have hs2:=hu1.size;have hlt:=zDB (b:=b) (rv:=rv) hb hF hu.size;have hbl:=(hF b hm).2;have hxl:xs.length=n:=by simpa using ho.1
 have hrl:∀ k,rv.ownBlock=some k->k<w.heap.size:=fun k hk=>(hF k (hR.rown k hk).1).2
 refine⟨hu,fun k hk=>⟨.inl (hR.rown k hk).1,(hR.rown k hk).2⟩,by simp[opd];omega,(fun _=>by
  obtain⟨a,g,c,h,_⟩:=zAl ho;exact⟨a,n,c,h,by simp[opd];omega⟩),?_,n,_,hn,hr1,fun k hk=>?_⟩
 ·rw[zCI];have hnew:∀ k,v1.ownBlock=some k->w.heap.size<=k/\k<w1.heap.size:=fun k hk=>by
   rcases o1.2 with⟨h,_⟩|⟨g,_,_,h,h2,h3,_⟩
   ·rw[h]at hk;exact absurd hk (by simp[Value.ownBlock])
   ·rw[h]at hk;obtain rfl:g=k:=Option.some.inj hk;exact⟨h2,zAi h3⟩
  have o2:w'.ownsRow w.heap.size 3 1 v1 (s.op.length+1) (cellsI (zAZ s++[(t:Int)])):=by
   refine⟨o1.1,?_⟩;rcases o1.2 with h|⟨g,cap,cur,rfl,h2,h3,h4⟩
   ·exact .inl h
   ·refine .inr ⟨g,cap,cur,rfl,h2,(hu1.block g (zAi h3) (fun hmu=>?_)).trans h3,h4⟩;rcases hmu with rfl|hmu
    ·omega
    ·have:=hrl g hmu;omega
  have s1:=zCg o2 hlt (fun k hk=>by
   have:=hnew k hk;refine⟨.inl (.inr ⟨this.1,by omega⟩),by omega,fun e=>by have:=hrl k e;omega⟩)
  exact s1.map fun W hW=>⟨Ints.own hW,Whole0.own hW⟩
 ·have hk':k<=s.op.length+1:=by simpa [opd]using hk
  rw[zBY s t k hk',List.getD_eq_getElem?_getD,List.getElem?_set];by_cases hkK:k=s.op.length+1
  ·rw[if_pos hkK,if_pos hkK.symm,if_pos (by omega)];exact LevS.nil hlt
  ·rw[if_neg hkK,if_neg (Ne.symm hkK),<-List.getD_eq_getElem?_getD];exact(hl k (by omega)).keep hb hF hu (fun _ _ h=>h)
end
theorem zIV {w w2:World} {x:Value} {l:List Nat} (h:FrW w w2 x l) (hl:∀ z∈l,z<256):Sup (fun k=>w.heap.size<=k/\k<w2.heap.size) w2 (fun W=>Bytes W x l/\Whole0 x):=by
 have s1:=zCg h.own (F:=fun k=>w.heap.size<=k/\k<w2.heap.size) (fun k hk=>hk.2) (fun k hk=>by
  rcases h.own.2 with⟨h1,_⟩|⟨g,_,_,h1,h2,h3,_⟩
  ·rw[h1]at hk;exact absurd hk (by simp[Value.ownBlock])
  ·rw[h1]at hk;have e:g=k:=Option.some.inj hk;have:=zAi h3;omega)
 exact s1.map fun W hW=>⟨Bytes.own hW hl,Whole0.own hW⟩
theorem zDm {W0 w:World} {F:Nat->Prop} {b:Nat} {s:De.St} (h:RefW W0 F b s w) (he:s.e=0) (hsm:∀ k,(zAI s k).length<=2000) (t:Nat) (ht:t<256) (bv:Value) (bs:List Nat) (hB:Bytes w bv bs) (h0:Whole0 bv) :
  Calls prog 57 #[.pointer (some ⟨b,0,none⟩),.int .i64 t,bv] w fun e w'=>e=.returned (.tuple #[])/\Upto F w w'/\RefW W0 (Ext F w w') b (De.put s t bs) w':=by
 have HX:=hid h;have HB:=hid hB;have H0:=hid h0;obtain⟨tv,rv,hc,_⟩:=h.body;have c2:=cell_blk hc 2 rfl;have f2:=zAh hc 2;have hbl:=zAi hc;have hlt:=hid hB.1;obtain⟨_,va,vsb,vso,vc,rfl,_⟩:=hB;have HS:=hid hsm;obtain⟨n,hn⟩:∃ n,bs.length=n:=⟨_,rfl⟩
 rw[hn]at HB H0 ⊢;have HN:=hid hn;clear h h0 hc hsm;by_cases hl:n<=65530
 ·have hz:¬(65530:Int)<n:=by omega
  have eP:De.put s t bs=De.add s (Tl.elem t bs):=by unfold De.put;rw[if_neg (by rw[hn];omega)]
  rw[eP];clear hn eP;go_enter func57,ntmps57
  go_wp2_with (first
   |(go_at_call 91;refine(zHn t ht _ bs _ HB.out H0.out (by rw[HN.out];omega)).mono ?_;rintro e w2 ⟨u,rfl,hF2⟩;have F2:=hid hF2;clear hF2)
   |(go_at_call 59;refine(zDV HX.out he HS.out F2.out.grown (zIV F2.out (Tl.elem_lt ht hlt.out))).mono ?_;rintro e w3 ⟨rfl,k1,k2⟩;have K1:=hid k1;have K2:=hid k2;clear k1 k2))
  exact⟨rfl,.tuple #[],by kernel_rfl,rfl,K1.out,K2.out⟩
 ·have hz:(65530:Int)<n:=by omega
  have eP:De.put s t bs={ s with e:=3 }:=by unfold De.put;rw[if_pos (by rw[hn];omega)]
  rw[eP];clear hn eP;go_enter func57,ntmps57
  go_wp2
  have k:=HX.out.err 3 (by decide);exact⟨rfl,.tuple #[],by kernel_rfl,rfl,k.1,k.2⟩
end Go.Proofs.YtijkaknggdaajaaGreatDoor
