import Derived.Test.YtijkaknggdaajaaGreatDoorZw11
import Derived.Test.YtijkaknggdaajaaGreatDoorZw17
set_option linter.unusedVariables false
set_option linter.unusedSimpArgs false
set_option maxRecDepth 100000
set_option maxHeartbeats 16000000
namespace Go.Proofs.YtijkaknggdaajaaGreatDoor
open Go.Proofs.Tryz
open Lib (hid)
open Go.RowKit
def serL (n:Int):List Nat:=if n<0 then []else Wh.dig n.toNat
theorem zHh (n:Int) (h2:n<9223372036854775808) (tp:TypeId) (p:Value) (w:World) (hF:Figs w tp p) :
  Calls prog 175 #[.int .i64 n] w fun e w'=>e=.returned (.string (strOf (serL n)))/\w.grownBy w' none:=by
 by_cases hn:n<0
 ·have HX:Hid (strOf (serL n)=⟨#[]⟩):=hid (by rw[serL,if_pos hn];rfl);go_enter func175,ntmps175
  go_wp2
  go_ret
  rw[HX.out];exact⟨rfl,zAa _ _⟩
 ·obtain⟨u,rfl⟩:∃ u:Nat,n=u:=⟨n.toNat,by omega⟩
  have HX:Hid (strOf (serL (u:Int))=strOf (Wh.dig u)):=hid (by rw[serL,if_neg hn,Int.toNat_natCast]);have HI:=hid (itoa_any u (by omega) tp p w hF);rw[HX.out];generalize strOf (Wh.dig u)=t at *;clear hF;go_enter func175,ntmps175
  go_wp2_with (go_at_call 194;refine HI.out.mono ?_;rintro e w1 ⟨rfl,hg1⟩;have HG1:=hid hg1;clear hg1)
  go_ret
  exact⟨rfl,HG1.out⟩
def zBz (L:List Nat):Int×Nat:=if Wh.figs L=true then((Wh.pval L:Nat),0)else(0,4)
theorem zBq {L:List Nat} (h:Wh.figs L=true):1<=L.length/\L.length<=18/\L.all Wh.fig=true/\Wh.dig (Wh.pval L)=L:=by
 obtain⟨⟨h1,h2⟩,h3,h4⟩:=(Wh.figs_iff L).1 h;exact⟨h1,h2,h3,h4⟩
theorem zGo {s:ByteArray} (h:Lib.atoi s.data.toList=none):zBz (strL s)=(0,4):=by
 rw[zBz];split
 ·rename_i hf
  obtain⟨h1,_,h3,_⟩:=zBq hf;rw[zFB s h3 (by intro e;rw[e]at h1;simp at h1)]at h;cases h
 ·rfl
theorem figRes_some {s:ByteArray} {n:Int} (hl:s.size<=18) (h:Lib.atoi s.data.toList=some n):zBz (strL s)=if serL n=strL s then(n,0)else(0,4):=by
 have hb:=Lib.atoi_bound h (by rw[Array.length_toList];exact hl);by_cases he:serL n=strL s
 ·rw[if_pos he];by_cases hn:n<0
  ·rw[serL,if_pos hn]at he;have:s.data.toList=[]:=by
    have:=he.symm;simpa [strL]using this
   rw[this]at h;cases h
  ·rw[serL,if_neg hn]at he;obtain⟨k1,k2⟩:=Wh.figs_dig (n:=n.toNat) (by omega);rw[he]at k1 k2;rw[zBz,if_pos k1,k2,Int.toNat_of_nonneg (by omega)]
 ·rw[if_neg he,zBz];split
  ·rename_i hf
   obtain⟨h1,_,h3,h4⟩:=zBq hf;rw[zFB s h3 (by intro e;rw[e]at h1;simp at h1)]at h;obtain rfl:=Option.some.inj h;exact absurd (by rw[serL,if_neg (by omega),Int.toNat_natCast];exact h4) he
  ·rfl
theorem zGp {s:ByteArray} (h:18<s.size):zBz (strL s)=(0,4):=by
 rw[zBz];split
 ·rename_i hf
  have:=(zBq hf).2.1;rw[zAx]at this;omega
 ·rfl
theorem zLc (n:Int) (h:n<100000000000000000000):∀ x∈serL n,x<256:=by
 unfold serL;split
 ·simp
 ·intro x hx;have:=List.all_eq_true.1 (Wh.dig_fig n.toNat (by omega)) x hx;simp[Wh.fig]at this;omega
theorem zGn (A:Nat->Addr) (s:ByteArray) (tp:TypeId) (p:Value) (w:World) (hF:Figs w tp p) (hE:RFErrs w A) :
  Calls prog 199 #[.string s] w fun e w'=>e=.returned (.tuple #[.int .i64 (zBz (strL s)).1,zAu A (zBz (strL s)).2])/\w.grownBy w' none:=by
 have HEF:=hid (fun W hW=>(hE.grown (w':=W) hW).form);have HF:=hid (fun W hW=>hF.grown (w':=W) hW);have e4:zAu A 4=errV A 4:=rfl;have e0:zAu A 0=.nilIface:=rfl;by_cases hl:18<s.size
 ·rw[zGp hl];have eF:=HEF.out w (zAa _ _);clear hF hE;go_enter func199,ntmps199
  go_wp2
  go_quiet (fail)
  go_wp2
  go_ret2
  exact⟨rfl,zAd (zAa _ _) _⟩
 ·cases ha:Lib.atoi s.data.toList with
  |none =>
   rw[zGo ha];have HA:=hid (zJH s (by omega) ha tp p w hF);clear hF hE ha;go_enter func199,ntmps199
   go_wp2_with (go_at_call 212;refine HA.out.mono ?_;rintro e w1 ⟨N,rfl,hg1⟩;have HG1:=hid hg1;have eF:=HEF.out w1 hg1;clear hg1)
   go_quiet (fail)
   go_wp2
   go_ret2
   exact⟨rfl,zAd HG1.out _⟩
  |some n =>
   have hb:=Lib.atoi_bound ha (by rw[Array.length_toList];exact Nat.not_lt.1 hl);rw[figRes_some (by omega) ha];have HA:=hid (zKE s n (by omega) ha w);have HS:=hid (fun W hW=>zHh n (by omega) tp p W (HF.out W hW));have hsb:((strOf (serL n)).toList==s.toList)=decide (serL n=strL s):=by
    rw[zFK,zAw (zLc n (by omega))]
   generalize strOf (serL n)=t at *;by_cases he:serL n=strL s
   ·rw[if_pos he];rw[decide_eq_true he]at hsb;have hne:(t.toList != s.toList)=false:=by rw[bne,hsb];rfl
    clear hF hE ha he hb;go_enter func199,ntmps199
    go_wp2_with (first
     |(go_at_call 212;refine HA.out.mono ?_;rintro e w1 ⟨rfl,hg1⟩;have HG1:=hid hg1;clear hg1)
     |(go_at_call 175;refine(HS.out _ HG1.out).mono ?_;rintro e w2 ⟨rfl,hg2⟩;have HG2:=hid (zAb HG1.out hg2);clear hg2))
    go_ret2
    exact⟨rfl,HG2.out⟩
   ·rw[if_neg he];rw[decide_eq_false he]at hsb;have hne:(t.toList != s.toList)=true:=by rw[bne,hsb];rfl
    clear hF hE ha he hb;go_enter func199,ntmps199
    go_wp2_with (first
     |(go_at_call 212;refine HA.out.mono ?_;rintro e w1 ⟨rfl,hg1⟩;have HG1:=hid hg1;clear hg1)
     |(go_at_call 175;refine(HS.out _ HG1.out).mono ?_;rintro e w2 ⟨rfl,hg2⟩;have HG2:=hid (zAb HG1.out hg2);have eF:=HEF.out w2 (zAb HG1.out hg2);clear hg2))
    go_quiet (fail)
    go_wp2
    go_ret2
    exact⟨rfl,zAd HG2.out _⟩
theorem zBv (a b:List Nat):strOf (a++b)=strOf a++strOf b:=by
 apply ByteArray.ext;simp[strOf,ByteArray.data_append]
theorem zG3:∀ (f n:Nat),(Wh.digF f n).length<=f+1
 |0,n=>by simp[Wh.digF]
 |f+1,n=>by
  rw[Wh.digF];split
  ·simp
  ·have:=zG3 f (n/10);simp;omega
theorem zEA (n:Nat):(Wh.dig n).length<=21:=zG3 20 n
theorem zLV (k:Nat) (hk:k<256) (w:World):(convert 3 5 (.int .i64 ((k:Nat):Int))).run prog w=.ok (.int .u8 ((k:Nat):Int)) w:=by
 simp[go_sem];simp only[IntKind.wrap,IntKind.bits,IntKind.signed];simp;omega
theorem zKA (k:Nat) (w:World):(Instr.buildSlice 33 1 #[(0,.int .u8 ((k:Nat):Int))]).run prog w=.ok (.slice (some ⟨w.heap.size,0,none⟩) 1 1) (w.alloc (.cells #[.int .u8 ((k:Nat):Int)] 5)):=by
 simp[go_sem]
theorem zCq (u:Nat) (hu:u<9223372036854775808):∀ w,
  Calls prog 151 #[.int .i64 (u:Int)] w fun e w'=>e=.returned (.string (strOf (Wh.dig u)))/\w.grownBy w' none:=by
 induction u using Nat.strongRecOn with
 |_ u ih =>
  intro w;by_cases h10:u<10
  ·have HX:Hid (strOf (Wh.dig u)=strOf [48+u]):=hid (by rw[Wh.dig_small h10]);have HB:Hid (Bytes (w.alloc (.cells #[.int .u8 ((48:Int)+(u:Int))] 5)) (.slice (some ⟨w.heap.size,0,none⟩) 1 1) [48+u]):=hid (Bytes.lit (l:=[48+u]) (t:=5) (fr:=(0,0)) (by rw[alloc_at];simp[cellsL]) (by simp;omega));have HG:=hid (World.grownBy_alloc w (.cells #[.int .u8 ((48:Int)+(u:Int))] 5) none);have hc:=zAS (P:=prog) HB.out 33 5 9 underlying33 underlying5 underlying9;rw[HX.out];generalize strOf [48+u]=t at *;clear ih hu;go_enter func151,ntmps151
   go_wp2
   go_ret
   exact⟨rfl,HG.out⟩
  ·have h:=ih (u/10) (by omega) (by omega);have HX:Hid (strOf (Wh.dig u)=strOf (Wh.dig (u/10))++strOf [48+u%10]):=hid (by rw[Wh.dig_step (by omega) (by omega),zBv]);have hlen:(strOf (Wh.dig (u/10))).size+(strOf [48+u%10]).size<=2000:=by
    rw[zAE,zAE];have:=zEA (u/10);simp;omega
   have Hlen:=hid hlen;have hS2:∀ w x,Bytes w x [48+u%10]->(convert 33 9 x).run prog w=.ok (.string (strOf [48+u%10])) w:=fun w x hx=>zAS hx _ 5 _ underlying33 underlying5 underlying9
   have HS2:=hid hS2;have HI:=hid h;rw[HX.out];generalize strOf (Wh.dig (u/10))=T1 at *;generalize strOf [48+u%10]=T2 at *;clear ih hlen hS2 h;go_enter func151,ntmps151
   go_wp2
   refine zIr _ u T1 T2 w _ _ rfl rfl (fun W _=>(HI.out W).mono (fun e w' ⟨h1,h2⟩=>⟨_,h1,h2,rfl⟩)) (zLV _ (by omega)) (zKA _) (by omega) HS2.out ?_ ?_ ?_ Hlen.out ⟨rfl,rfl,rfl,Nat.le_refl _,fun _ _ _=>rfl⟩ (fun us w4 hg4=>?_)
   ·simp only[IntKind.wrap,IntKind.bits,IntKind.signed];rw[Int.tdiv_eq_ediv_of_nonneg (by omega)];simp;omega
   ·rw[Int.tmod_eq_emod_of_nonneg (by omega)];omega
   ·simp only[IntKind.wrap,IntKind.bits,IntKind.signed];simp;omega
   simp only[zAA,zAN,Act.put,List.setIfInBounds_toArray,List.set_cons_succ,List.set_cons_zero];have HG4:=hid hg4;clear hg4;go_wp2
   go_ret
   exact⟨rfl,HG4.out⟩
theorem zIK (l:List Nat) (k:Nat) (h:k<l.length):Wh.pval (l.take (k+1))=Wh.pval (l.take k)*10+(l.getD k 0-48):=by
 have e:l.getD k 0=l[k]:=by rw[List.getD_eq_getElem?_getD,List.getElem?_eq_getElem h];rfl
 rw[List.take_add_one,List.getElem?_eq_getElem h,Option.toList_some,Wh.pval_snoc,e]
theorem zKu (l:List Nat) (k:Nat) (h:k<l.length):(l.take (k+1)).all Wh.fig=((l.take k).all Wh.fig&&Wh.fig (l.getD k 0)):=by
 have e:l.getD k 0=l[k]:=by rw[List.getD_eq_getElem?_getD,List.getElem?_eq_getElem h];rfl
 rw[List.take_add_one,List.getElem?_eq_getElem h,Option.toList_some,List.all_append,e];simp
theorem zKs {l:List Nat} {k:Nat} (h:(l.take k).all Wh.fig=false):Wh.figs l=false:=by
 cases hf:Wh.figs l
 ·rfl
 ·have h3:=(zBq hf).2.2.1;rw[<-Bool.not_eq_true]at h;refine absurd ?_ h;rw[List.all_eq_true]at h3 ⊢;exact fun x hx=>h3 x (List.mem_of_mem_take hx)
def zBA (L:List Nat):Int×Bool:=if Wh.figs L=true then((Wh.pval L:Nat),true)else(0,false)
theorem zDL (s:ByteArray) (w:World) :
  Calls prog 133 #[.string s] w fun e w'=>e=.returned (.tuple #[.int .i64 (zBA (strL s)).1,.bool (zBA (strL s)).2])/\w.grownBy w' none:=by
 obtain⟨L,hL⟩:∃ L,L=strL s:=⟨_,rfl⟩
 obtain⟨n,hn⟩:∃ n,n=s.size:=⟨_,rfl⟩
 have hLn:L.length=n:=by rw[hL,zAx,hn]
 have HIx:Hid (∀ j:Nat,j<n->∀ W,(Instr.index 9 (.string s) (.int .i64 (j:Int))).run prog W=.ok (.int .u8 (L.getD j 0:Nat)) W):=hid (fun j hj W=>by
  have hjs:j<s.size:=by omega
  have h2:(0:Int)<=(j:Int)/\(j:Int)<(s.size:Int):=⟨by omega,by omega⟩;have e:=zCo s j hjs;rw[<-hL]at e;rw[run_index_string W _ s .i64 j underlying9,dif_pos h2,<-e];rfl)
 have HBad:Hid (Wh.figs L=false->zBA L=(0,false)):=hid (fun h=>by rw[zBA,if_neg (by rw[h];simp)]);rw[<-hL];have hsz:((s.size:Nat):Int)=n:=by rw[hn]
 by_cases hlen:1<=n/\n<=18
 ·obtain⟨hl1,hl2⟩:=hlen;have HSt:Hid (∀ k,k<n->Wh.pval (L.take (k+1))=Wh.pval (L.take k)*10+(L.getD k 0-48)/\(L.take (k+1)).all Wh.fig=((L.take k).all Wh.fig&&Wh.fig (L.getD k 0))/\L.getD k 0<256):=hid (fun k hk =>
   ⟨zIK L k (by omega),zKu L k (by omega),zAY (by rw[hL];exact strL_lt s) k⟩)
  have HPv:Hid (∀ k,k<=n->(L.take k).all Wh.fig=true->Wh.pval (L.take k)<1000000000000000000):=hid (fun k hk h=>by
   have h1:=Wh.pval_lt _ h;rw[List.length_take,Nat.min_eq_left (by omega)]at h1;exact Nat.lt_of_lt_of_le h1 (Nat.le_trans (Nat.pow_le_pow_right (by decide) (show k<=18 by omega)) (by decide)))
  have HPw:Hid (∀ k,k<n->(L.take k).all Wh.fig=true->Wh.pval (L.take k)<100000000000000000):=hid (fun k hk h=>by
   have h1:=Wh.pval_lt _ h;rw[List.length_take,Nat.min_eq_left (by omega)]at h1;exact Nat.lt_of_lt_of_le h1 (Nat.le_trans (Nat.pow_le_pow_right (by decide) (show k<=17 by omega)) (by decide)))
  have HT:Hid (L.take n=L):=hid (List.take_of_length_le (by omega));have HLs:Hid (L=strL s):=hid hL;have HLn:=hid hLn;have HN:=hid hn;have HPr:Hid (∀ k,(L.take k).all Wh.fig=false->Wh.figs L=false):=hid (fun k h=>zKs h);have HRS:=hid (fun u hu W=>zCq u hu W);clear hLn hL hn;go_enter func133,ntmps133
  go_wp2
  go_loopw [4,5] (fun v i wr=>∃ k:Nat,k<=n/\v=.int .i64 (Wh.pval (L.take k):Nat)/\i=.int .i64 k/\(L.take k).all Wh.fig=true/\wr=w) (fun _ i _=>n-(intOf i).toNat)
  case atStart=>exact⟨0,by omega,rfl,rfl,rfl,rfl⟩
  case round =>
   obtain⟨k,hk,rfl,rfl,hfg,rfl⟩:=hrel;have hpv:=HPv.out k hk hfg;have HFg:=hid hfg;clear hfg;by_cases hkn:k<n
   ·have hix:=HIx.out k hkn;have hpw:=HPw.out k hkn HFg.out;clear hpv;obtain⟨s1,s2,s3⟩:=HSt.out k hkn;rw[HFg.out,Bool.true_and]at s2;have S1:=hid s1;have S2:=hid s2;clear s1 s2;have HPk:=HPr.out (k+1);rw[S2.out]at HPk;have HPk2:=hid HPk;clear HPk;generalize L.getD k 0=c at *;generalize Wh.pval (L.take k)=q at *;by_cases hc:c<48
    ·have hff:Wh.fig c=false:=by simp[Wh.fig];omega
     have HO:=hid (HBad.out (HPk2.out hff));go_wp2
     go_ret2
     rw[HO.out];exact⟨rfl,zAa _ _⟩
    ·by_cases hc2:57<c
     ·have hff:Wh.fig c=false:=by simp[Wh.fig];omega
      have HO:=hid (HBad.out (HPk2.out hff));go_wp2
      go_ret2
      rw[HO.out];exact⟨rfl,zAa _ _⟩
     ·have hff:Wh.fig c=true:=by simp[Wh.fig];omega
      have HFf:=hid hff;clear hff;go_wp2
      go_roundw
      case rel=>exact⟨k+1,by omega,by rw[S1.out];go_num,by go_num,by rw[S2.out];exact HFf.out,trivial⟩
      case measure=>simp[intOf];omega
   ·obtain rfl:k=n:=by omega
    rw[HT.out]at hpv HFg ⊢;obtain⟨q,hq⟩:∃ q,q=Wh.pval L:=⟨_,rfl⟩
    have HQ:=hid hq;rw[<-hq]at hpv ⊢;have hsb:((strOf (Wh.dig q)).toList==s.toList)=decide (Wh.dig q=L):=by
     rw[zFK,zAw,HLs.out];intro x hx;have:=List.all_eq_true.1 (Wh.dig_fig q (by omega)) x hx;simp[Wh.fig]at this;omega
    have HRq:=hid (HRS.out q (by omega));generalize strOf (Wh.dig q)=t at *;clear hq;by_cases he:Wh.dig q=L
    ·have hfi:Wh.figs L=true:=(Wh.figs_iff L).2 ⟨⟨by rw[HLn.out];exact hl1,by rw[HLn.out];exact hl2⟩,HFg.out,by rw[<-HQ.out];exact he⟩;have HO:Hid (zBA L=((q:Int),true)):=hid (by rw[zBA,if_pos hfi,HQ.out]);rw[decide_eq_true he]at hsb;have hne:(t.toList != s.toList)=false:=by rw[bne,hsb];rfl
     clear he hfi;go_wp2_with (go_at_call 151;refine(HRq.out _).mono ?_;rintro e w1 ⟨rfl,hg1⟩;have HG1:=hid hg1;clear hg1)
     go_ret2
     rw[HO.out];exact⟨rfl,HG1.out⟩
    ·have hfi:Wh.figs L=false:=by
      cases hf:Wh.figs L
      ·rfl
      ·exact absurd (by rw[HQ.out];exact(zBq hf).2.2.2) he
     have HO:=hid (HBad.out hfi);rw[decide_eq_false he]at hsb;have hne:(t.toList != s.toList)=true:=by rw[bne,hsb];rfl
     clear he hfi;go_wp2_with (go_at_call 151;refine(HRq.out _).mono ?_;rintro e w1 ⟨rfl,hg1⟩;have HG1:=hid hg1;clear hg1)
     go_ret2
     rw[HO.out];exact⟨rfl,HG1.out⟩
 ·have hfi:Wh.figs L=false:=by
   cases hf:Wh.figs L
   ·rfl
   ·have:=zBq hf;omega
  have HO:=hid (HBad.out hfi);clear hfi hLn hL hn;by_cases h0:n<1
  ·go_enter func133,ntmps133
   go_wp2
   go_ret2
   rw[HO.out];exact⟨rfl,zAa _ _⟩
  ·have h18:18<n:=by omega
   clear hlen;go_enter func133,ntmps133
   go_wp2
   go_ret2
   rw[HO.out];exact⟨rfl,zAa _ _⟩
theorem zIX {w:World} {b1 b2:Nat} {e1 e2:TypeId} {s1 s2:Nat} {v1 v2:Value} {n1 n2:Nat} {x1 x2:List Value} (h1:w.ownsRow b1 e1 s1 v1 n1 x1) (h2:w.ownsRow b2 e2 s2 v2 n2 x2) (he:e1≠e2):v1.ownBlock=none∨v1.ownBlock≠v2.ownBlock:=by
 rcases h1.2 with⟨rfl,_⟩|⟨g1,_,_,rfl,_,k1,_⟩
 ·exact .inl rfl
 ·right
  rcases h2.2 with⟨rfl,_⟩|⟨g2,_,_,rfl,_,k2,_⟩
  ·simp[Value.ownBlock]
  ·simp only[Value.ownBlock,ne_eq,Option.some.injEq];intro e;subst e;rw[k1]at k2;simp at k2;exact he k2.2
namespace Od
theorem splitA_pos:∀ (l acc:List Nat),0<(splitA acc l).length
 |[],acc=>by simp[splitA]
 |c :: r,acc=>by
  rw[splitA];split
  ·simp
  ·exact splitA_pos r _
theorem splitA_len:∀ (l acc:List Nat),(splitA acc l).length<=l.length+1
 |[],acc=>by simp[splitA]
 |c :: r,acc=>by
  rw[splitA];split
  ·have:=splitA_len r [];simp;omega
  ·have:=splitA_len r (acc++[c]);simp;omega
theorem splitA_lt:∀ (l acc:List Nat),(∀ x∈l,x<256)->(∀ x∈acc,x<256)->∀ p∈splitA acc l,∀ x∈p,x<256
 |[],acc,_,ha,p,hp=>by
  simp[splitA]at hp;subst hp;exact ha
 |c :: r,acc,hl,ha,p,hp=>by
  rw[splitA]at hp;split at hp
  ·rcases List.mem_cons.1 hp with rfl|hp
   ·exact ha
   ·exact splitA_lt r [] (fun x hx=>hl x (by simp[hx])) (by simp) p hp
  ·exact splitA_lt r (acc++[c]) (fun x hx=>hl x (by simp[hx])) (fun x hx=>by
    rcases List.mem_append.1 hx with h|h
    ·exact ha x h
    ·simp at h;subst h;exact hl x (by simp)) p hp
theorem arcs_cons (p:List Nat) (r:List (List Nat)):arcs (p :: r)=match part p with|none=>none|some n=>(arcs r).map (n :: ·):=by
 rw[arcs];cases part p <;> cases arcs r <;> rfl
theorem arcs_step (ps:List (List Nat)) (ns:List Int) (k:Nat) (hk:k<ps.length) (h:arcs ps=(arcs (ps.drop k)).map (ns ++ ·)) :
  match part (ps.getD k [])with|none=>arcs ps=none|some n=>arcs ps=(arcs (ps.drop (k+1))).map ((ns++[n]) ++ ·):=by
 rw[List.drop_eq_getElem_cons hk,arcs_cons]at h;have e:ps.getD k []=ps[k]:=by rw[List.getD_eq_getElem?_getD,List.getElem?_eq_getElem hk];rfl
 rw[e];cases hp:part ps[k]with
 |none=>rw[hp]at h;exact h
 |some n =>
  rw[hp]at h;simp only[Option.map_map]at h;rw[h]
  congr 1
  funext x
  simp
end Od
def zMC (w w':World) (r:Except Nat (List Int)) (e:Ending):Prop :=
 match r with
 |.ok l=>∃ v,e=.returned (.tuple #[v,.int .i64 0])/\FrI w w' v l
 |.error k=>e=.returned (.tuple #[.slice none 0 0,.int .i64 k])/\w.grownBy w' none
theorem zL8:9≠3:=by decide
theorem zJJ {w b c:World} {v v' V:Value} {ns:List Int} {q:Int} {b2 m:Nat} {xs:List Value} (hF:FrI w b v ns) (hO:b.ownsRow b2 9 1 V m xs)
  (ho:c.ownsRow w.heap.size 3 1 v' (ns.length+1) (cellsI ns++[.int .i64 q])) (hg:b.grownBy c v.ownBlock):FrI w c v' (ns++[q])/\c.ownsRow b2 9 1 V m xs :=
 ⟨hF.step ho hg (by rw[zBo];rfl),hO.kept hg (zIX hO hF.own zL8)⟩
theorem zE0 (s:ByteArray) (w:World) (hs:s.size<=1000000) :
  Calls prog 96 #[.string s] w fun e w'=>zMC w w' (Od.parse (strL s)) e:=by
 obtain⟨PS,hPS⟩:∃ PS,PS=Od.split (strL s):=⟨_,rfl⟩
 have hsp:=fun W=>zEY s W (by omega)
 rw[<-hPS]at hsp;have hpos:0<PS.length:=by rw[hPS];exact Od.splitA_pos _ _
 have hlen:PS.length<=1000001:=by
  have:=Od.splitA_len (strL s) [];rw[zAx]at this;rw[hPS,Od.split];omega
 have hplt:∀ p∈PS,∀ x∈p,x<256:=by rw[hPS];exact Od.splitA_lt _ _ (strL_lt s) (by simp)
 have HParse:Hid (Od.parse (strL s)=match Od.arcs PS with|none=>.error 4|some a=>if Od.right a=true then .ok a else .error 1):=hid (by rw[hPS];rfl);have HStep:=hid (Od.arcs_step PS);have HFg:Hid (∀ k,k<PS.length->∀ W,Calls prog 133 #[.string (strOf (PS.getD k []))] W fun e w'=>e=.returned (.tuple #[.int .i64 (zBA (PS.getD k [])).1,.bool (zBA (PS.getD k [])).2])/\W.grownBy w' none):=hid (fun k hk W=>by
  have:=zDL (strOf (PS.getD k [])) W;rw[zAw (hplt _ (by rw[List.getD_eq_getElem?_getD,List.getElem?_eq_getElem hk];exact List.getElem_mem hk))]at this;exact this)
 obtain⟨m,hm⟩:∃ m,m=PS.length:=⟨_,rfl⟩
 have HM:=hid hm;rw[<-hm]at hpos hlen HFg;have HA0:Hid (Od.arcs PS=(Od.arcs (PS.drop 0)).map ([] ++ ·)):=hid (by simp);have HAm:Hid (∀ ns,Od.arcs PS=(Od.arcs (PS.drop m)).map (ns ++ ·)->Od.arcs PS=some ns):=hid (fun ns h=>by
  rw[h,List.drop_eq_nil_of_le (by omega)];simp[Od.arcs])
 have HSp:=hid hsp;have F0:Hid (FrI w (w.alloc (.cells #[] 3)) (.slice (some ⟨w.heap.size,0,none⟩) 0 0) []):=hid ⟨World.grownBy_alloc _ _ _,ownsRow_lit (alloc_at w _) (Nat.le_refl _) (by simp)⟩;generalize hPa:Od.parse (strL s)=Pa at *;clear hPS hsp hplt hm hPa hs;go_enter func96,ntmps96
 go_wp2_with (go_at_call 132;refine(HSp.out _).mono ?_;rintro e w2 ⟨v2,rfl,hF2⟩;obtain⟨a2,g2,c2,rfl,q1,q2,q3,q4⟩:=zAl hF2.own;rw[<-HM.out]at q1 q3;obtain⟨rfl,q5,q6⟩:=q3 hpos;have hO2:=hF2.own;rw[<-HM.out]at hO2;have HO2:=hid hO2;have HF1:=hid (F0.out.more hF2.grown);rw[<-HM.out];clear hF2 q3 q4 hO2)
 go_loopw [4,13] (fun out i wr=>∃ (k:Nat) (ns:List Int),k<=m/\ns.length=k/\i=.int .i64 k/\FrI w wr out ns/\wr.ownsRow (w.alloc (.cells #[] 3)).heap.size 9 1 (.slice (some ⟨g2,0,none⟩) m c2) m (zA4 PS)/\Od.arcs PS=(Od.arcs (PS.drop k)).map (ns ++ ·)) (fun _ i _=>m-(intOf i).toNat)
 case atStart=>exact⟨0,[],by omega,rfl,rfl,HF1.out,HO2.out,HA0.out⟩
 case round =>
  obtain⟨k,ns,hk,hnk,rfl,hF,hO,hA⟩:=hrel;have HF:=hid hF;have HO:=hid hO;have HA:=hid hA;clear hF hO hA;by_cases hkm:k<m
  ·have hcell:wr.cell? ⟨g2,k,none⟩=some (.string (strOf (PS.getD k []))):=by
    obtain⟨_,g',_,e,_,_,p3,p4⟩:=zAl HO.out;cases e
    obtain⟨e,_⟩:=p3 (by omega);cases e
    rw[p4 k hkm,zJA PS k (by rw[<-HM.out];exact hkm)]
   have hfg:=HFg.out k hkm;have hst:=HStep.out ns k (by rw[<-HM.out];exact hkm) HA.out;have hsize:((strOf (PS.getD k [])).size:Int)=((PS.getD k []).length:Int):=by rw[zAE]
   generalize PS.getD k []=p at *;by_cases hok:Wh.figs p=true/\p.length<=10
   ·obtain⟨hf,h10⟩:=hok;have hpt:Od.part p=some ((Wh.pval p:Nat):Int):=by rw[Od.part,if_pos ⟨hf,h10⟩]
    rw[hpt]at hst;have HSt:Hid (Od.arcs PS=(Od.arcs (PS.drop (k+1))).map ((ns++[((Wh.pval p:Nat):Int)]) ++ ·)):=hid hst;have hfo:zBA p=(((Wh.pval p:Nat):Int),true):=by rw[zBA,if_pos hf]
    rw[hfo]at hfg;have HFp:=hid hfg;generalize Wh.pval p=q at *;generalize strOf p=T at *;generalize p.length=pl at *;clear hfg hst hfo hpt hf;go_wp2_with (first
     |(go_at_call 133;refine(HFp.out _).mono ?_;rintro e w3 ⟨rfl,hg3⟩;have HF3:=hid (HF.out.more hg3);have HO3:=hid (HO.out.kept hg3 (Classical.em _));clear hg3)
     |(at_builtin;refine zAy (by rfl) (.tmp 29) (.tmp 31) 51 (by rfl) w.heap.size 3 (.int .i64 0) 8 underlying51 (by kernel_rfl) rfl (by decide) _ ns.length (cellsI ns) (by rfl) (HF3.out.own.alloc _) ⟨_,0,none⟩ (.int .i64 (q:Int)) (by rfl) (cell_blk (alloc_at _ _) 0 rfl) rfl (by omega) (by have:=HF3.out.le;rw[zAe];omega) ?_;intro v' w4 ho4 hg4;have hb4:=zJJ (HF3.out.alloc _) (HO3.out.alloc _) ho4 hg4;have F4:=hid hb4.1;have HO4:=hid hb4.2;clear hb4 ho4 hg4))
    go_roundw
    case rel=>exact⟨k+1,ns++[(q:Int)],by omega,by rw[List.length_append,hnk];rfl,by go_num,F4.out,HO4.out,HSt.out⟩
    case measure=>simp[intOf];omega
   ·have hpt:Od.part p=none:=by rw[Od.part,if_neg hok]
    rw[hpt]at hst;have HR:Hid (Pa=.error 4):=hid (by rw[HParse.out,show Od.arcs PS=none from hst]);clear hst hpt;by_cases hf:Wh.figs p=true
    ·have h10:10<p.length:=Nat.lt_of_not_le (fun h=>hok ⟨hf,h⟩);have hfo:zBA p=(((Wh.pval p:Nat):Int),true):=by rw[zBA,if_pos hf]
     rw[hfo]at hfg;have HFp:=hid hfg;generalize Wh.pval p=q at *;generalize strOf p=T at *;generalize p.length=pl at *;clear hfg hfo hf hok;go_wp2_with (go_at_call 133;refine(HFp.out _).mono ?_;rintro e w3 ⟨rfl,hg3⟩;have HF3:=hid (HF.out.more hg3);clear hg3)
     go_ret2
     rw[HR.out];exact⟨rfl,HF3.out.grown⟩
    ·have hfo:zBA p=(0,false):=by rw[zBA,if_neg hf]
     rw[hfo]at hfg;have HFp:=hid hfg;generalize strOf p=T at *;generalize p.length=pl at *;clear hfg hfo hf hok;go_wp2_with (go_at_call 133;refine(HFp.out _).mono ?_;rintro e w3 ⟨rfl,hg3⟩;have HF3:=hid (HF.out.more hg3);clear hg3)
     go_ret2
     rw[HR.out];exact⟨rfl,HF3.out.grown⟩
  ·obtain rfl:k=m:=by omega
   have harc:=HAm.out ns HA.out;have HRt:=hid (zBw _ ns wr HF.out.ints);by_cases hr:Od.right ns=true
   ·have HR:Hid (Pa=.ok ns):=hid (by rw[HParse.out,harc];simp[hr]);rw[hr]at HRt;clear harc hr;go_wp2_with (go_at_call 134;refine HRt.out.mono ?_;rintro e w3 ⟨rfl,hw3⟩;rw[hw3];clear hw3)
    go_ret2
    rw[HR.out];exact⟨_,rfl,HF.out⟩
   ·have HR:Hid (Pa=.error 1):=hid (by rw[HParse.out,harc];simp[hr]);rw[Bool.not_eq_true]at hr;rw[hr]at HRt;clear harc hr;go_wp2_with (go_at_call 134;refine HRt.out.mono ?_;rintro e w3 ⟨rfl,hw3⟩;rw[hw3];clear hw3)
    go_ret2
    rw[HR.out];exact⟨rfl,HF.out.grown⟩
namespace Od
theorem text_snoc:∀ (l:List Int) (n:Int),text (l++[n])=if l=[]then Wh.dig n.toNat else text l++46 :: Wh.dig n.toNat
 |[],n=>rfl
 |[x],n=>by simp[text]
 |x :: y :: r,n=>by
  have h:=text_snoc (y :: r) n;have e1:text (x :: y :: r)=Wh.dig x.toNat++46 :: text (y :: r):=rfl;have e2:text (x :: y :: r++[n])=Wh.dig x.toNat++46 :: text (y :: r++[n]):=rfl;rw[e2,h,e1,if_neg (by simp),if_neg (by simp),List.append_assoc];rfl
theorem text_take (l:List Int) (k:Nat) (h:k<l.length):text (l.take (k+1))=if k=0 then Wh.dig (l.getD k 0).toNat else text (l.take k)++46 :: Wh.dig (l.getD k 0).toNat:=by
 have e:l.getD k 0=l[k]:=by rw[List.getD_eq_getElem?_getD,List.getElem?_eq_getElem h];rfl
 rw[List.take_add_one,List.getElem?_eq_getElem h,Option.toList_some,text_snoc,e];by_cases hk:k=0
 ·subst hk;simp
 ·rw[if_neg hk,if_neg];intro he;have:=congrArg List.length he;rw[List.length_take,List.length_nil]at this;omega
theorem text_len:∀ l:List Int,(text l).length<=22*l.length
 |[]=>by simp[text]
 |[n]=>by have:=zEA n.toNat;simp[text];omega
 |x :: y :: r=>by
  have h:=text_len (y :: r);have:=zEA x.toNat;rw[text]
  ·simp only[List.length_append,List.length_cons]at *;omega
  ·simp
end Od
theorem zE1 (v:Value) (l:List Int) (w:World) (hB:Ints w v l) (hl:l.length<=2000) (hr:∀ n∈l,0<=n/\n<=2147483647) :
  Calls prog 117 #[v] w fun e w'=>e=.returned (.string (strOf (Od.text l)))/\w.grownBy w' none:=by
 obtain⟨a,sb,so,c,rfl,hc,ha,hcell⟩:=hB;obtain⟨n,hn⟩:∃ n,n=l.length:=⟨_,rfl⟩
 have HTk:Hid (∀ k,k<n->Od.text (l.take (k+1))=if k=0 then Wh.dig (l.getD k 0).toNat else Od.text (l.take k)++46 :: Wh.dig (l.getD k 0).toNat):=hid (fun k hk=>Od.text_take l k (by omega));have HTl:Hid (∀ k,(strOf (Od.text (l.take k))).size<=22*k):=hid (fun k=>by
  rw[zAE];have:=Od.text_len (l.take k);rw[List.length_take]at this;omega)
 have HEn:Hid (Od.text (l.take n)=Od.text l):=hid (by rw[List.take_of_length_le (by omega)]);have HNat:Hid (∀ k,k<n->∃ u:Nat,l.getD k 0=u/\u<=2147483647):=hid (fun k hk=>by
  have hk':k<l.length:=by omega
  have:=hr l[k] (List.getElem_mem hk');have e:l.getD k 0=l[k]:=by rw[List.getD_eq_getElem?_getD,List.getElem?_eq_getElem hk'];rfl
  exact⟨(l.getD k 0).toNat,by omega,by omega⟩)
 have HRS:=hid (fun u (hu:u<=2147483647) W=>zCq u (by omega) W);have HDl:Hid (∀ u,(strOf (Wh.dig u)).size<=21):=hid (fun u=>by rw[zAE];exact zEA u);rw[<-hn]at hc ha hcell hl ⊢;have HA:=hid ha;have HC0:=hid (fun(W:World) (hW:w.grownBy W none) (j:Nat) (hj:j<n)=>by
  have:=hcell j hj;rw[<-World.cell?_of_block (hW.block sb (ha (by omega)).2 (by simp))]at this;exact this)
 clear hn hr ha hcell;go_enter func117,ntmps117
 go_wp2
 go_loopw [3,8] (fun out i wr=>∃ k:Nat,k<=n/\i=.int .i64 k/\out=.string (strOf (Od.text (l.take k)))/\w.grownBy wr none) (fun _ i _=>n-(intOf i).toNat)
 case atStart=>exact⟨0,by omega,rfl,rfl,zAa _ _⟩
 case round =>
  obtain⟨k,hk,rfl,rfl,hG⟩:=hrel;have HG:=hid hG;clear hG;by_cases hkn:k<n
  ·obtain⟨rfl,_⟩:=HA.out (by omega);have hck:=HC0.out _ HG.out k hkn;obtain⟨u,hu,hu2⟩:=HNat.out k hkn;have htk:=HTk.out k hkn;rw[hu]at hck htk;rw[Int.toNat_natCast]at htk;have HS:=hid (HRS.out u hu2);have hD:=HDl.out u;have hT:=HTl.out k;by_cases hk0:k=0
   ·subst hk0;rw[if_pos rfl]at htk;rw[Nat.add_zero]at hck;have HTt:Hid (strOf (Od.text (l.take (0+1)))=strOf (Od.text (l.take 0))++strOf (Wh.dig u)):=hid (by
     rw[htk,show Od.text (l.take 0)=[]from rfl,<-zBv];rfl)
    generalize strOf (Wh.dig u)=D at *;generalize strOf (Od.text (l.take 0))=T at *;clear htk hu;go_wp2_with (go_at_call 151;refine(HS.out _).mono ?_;rintro e w2 ⟨rfl,hg2⟩;have HG2:=hid (zAb HG.out hg2);clear hg2)
    go_roundw
    case rel=>exact⟨0+1,by omega,by go_num,by rw[HTt.out],HG2.out⟩
    case measure=>simp[intOf];omega
   ·rw[if_neg hk0]at htk;have HTt:Hid (strOf (Od.text (l.take (k+1)))=strOf (Od.text (l.take k))++⟨#[46]⟩++strOf (Wh.dig u)):=hid (by
     rw[htk,List.append_cons,zBv,zBv];rfl)
    generalize strOf (Wh.dig u)=D at *;generalize strOf (Od.text (l.take k))=T at *;clear htk hu;go_wp2_with (go_at_call 151;refine(HS.out _).mono ?_;rintro e w2 ⟨rfl,hg2⟩;have HG2:=hid (zAb HG.out hg2);clear hg2)
    go_roundw
    case rel=>exact⟨k+1,by omega,by go_num,by rw[HTt.out],HG2.out⟩
    case measure=>simp[intOf];omega
  ·obtain rfl:k=n:=by omega
   rw[HEn.out];go_wp2
   go_ret
   exact⟨rfl,HG.out⟩
def zK1 (A:Nat->Addr) (w:World):Prop:=∀ (s:ByteArray) (W:World),s.size<=100000->w.grownBy W none->Calls prog 102 #[.string s] W fun e w'=>W.grownBy w' none/\match Od.parse (strL s)with
 |.ok l=>∃ a c,e=.returned (.tuple #[.slice a (Od.put l).length c,.nilIface])/\Bytes w' (.slice a (Od.put l).length c) (Od.put l)/\Whole0 (.slice a (Od.put l).length c)
 |.error k=>∃ a c,e=.returned (.tuple #[.slice a 0 c,errV A k])/\Bytes w' (.slice a 0 c) []
theorem rest_lt:∀ (l:List Int),∀ x∈Od.rest l,x<256
 |[],x,h=>by simp[Od.rest]at h
 |n :: r,x,h=>by
  rw[Od.rest]at h;rcases List.mem_append.1 h with h|h
  ·exact Od.septUpto_lt _ 6 x h
  ·exact rest_lt r x h
def zMA (A:Nat->Addr) (w:World):Prop:=∀ (v:Value) (l:List Int) (W:World),w.grownBy W none->Ints W v l->l.length<=100000->Calls prog 156 #[v] W fun e w'=>W.grownBy w' none/\e=.returned (if Od.right l=true then .tuple #[.string (strOf (Od.text l)),.nilIface]else .tuple #[.string ⟨#[]⟩,errV A 1])
theorem zKZ (u:Nat) (h:u<100000000000000000000):∀ x∈Wh.dig u,x<256:=fun x hx=>by
 have:=List.all_eq_true.1 (Wh.dig_fig u h) x hx;simp[Wh.fig]at this;omega
theorem zId:∀ (l:List Int),(∀ n∈l,0<=n/\n<=2147483647)->∀ x∈Od.text l,x<256
 |[],_,x,h=>by simp[Od.text]at h
 |[n],hl,x,h=>by
  have:=(hl n (by simp)).2;exact zKZ n.toNat (by omega) x h
 |n :: m :: r,hl,x,h=>by
  have h1:=(hl n (by simp)).2;have e:Od.text (n :: m :: r)=Wh.dig n.toNat++46 :: Od.text (m :: r):=rfl;rw[e]at h;rcases List.mem_append.1 h with h|h
  ·exact zKZ n.toNat (by omega) x h
  ·rcases List.mem_cons.1 h with rfl|h
   ·decide
   ·exact zId (m :: r) (fun z hz=>hl z (by simp[hz])) x h
def ValV (w:World) (v:Value) (x:De.Val):Prop:=∃ bv S,v=.agg #[.int .i64 x.kind,.int .i64 x.n,.bool x.is,bv,.string S]/\Bytes w bv x.b/\Whole0 bv/\strL S=x.t/\S.size<=2000
theorem ValV.grown {w w':World} {v:Value} {x:De.Val} (h:ValV w v x) (hg:w.grownBy w' none):ValV w' v x:=by
 obtain⟨bv,S,h1,h2,h3⟩:=h;exact⟨bv,S,h1,h2.grown hg,h3⟩
def zMD (w w':World) (r:Except Nat (Nat×List Nat)) (e:Ending):Prop:=w.grownBy w' none /\
 match r with
 |.ok p=>∃ bv,e=.returned (.tuple #[.int .i64 (p.1:Nat),bv,.int .i64 0])/\Bytes w' bv p.2/\Whole0 bv
 |.error k=>∃ t bv,e=.returned (.tuple #[t,bv,.int .i64 (k:Nat)])
theorem zEL {w:World} {v:Value} {l:List Nat} (h:Bytes w v l) (hl:0<l.length):Whole0 v:=by
 obtain⟨_,a,sb,so,c,rfl,_,h1,_⟩:=h;rw[(h1 hl).1];exact Whole0.some _ _ _
theorem zJo (m:Nat):0<(Pt.flags m).length:=by
 unfold Pt.flags;split
 ·simp
 ·split <;> simp
theorem zMU {w:World} {ad:Addr} {s:ByteArray} (h:w.cell? ad=some (.string s)):(Instr.loadAt 9 (.pointer (some ad))).run prog w=.ok (.string s) w:=by simp[go_sem,h]
theorem zKT {w:World} {ad:Addr} {z:Int} (h:w.cell? ad=some (.int .i64 z)):(Instr.loadAt 3 (.pointer (some ad))).run prog w=.ok (.int .i64 z) w:=by simp[go_sem,h]
theorem zF4 (v:Value) (x:De.Val) (w:World) (hv:ValV w v x) :
  Calls prog 60 #[v] w fun e w'=>zMD w w' (De.body x) e:=by
 obtain⟨k,n,is,bl,tl⟩:=x;obtain⟨bv,S,rfl,hB,h0,hS,hsz⟩:=hv;simp only at hB hS ⊢;have HB:=hid hB;have H0:=hid h0;have HS:=hid hS;have HZ:=hid hsz;obtain⟨_,va,vsb,vso,vc,rfl,_⟩:=hB;have hbx:(w.alloc (.cells #[.int .i64 k,.int .i64 n,.bool is,.slice va bl.length vc,.string S] 63)).heap[w.heap.size]?=_:=alloc_at w _;have HX:=hid hbx;have hg1:w.grownBy (w.alloc (.cells #[.int .i64 k,.int .i64 n,.bool is,.slice va bl.length vc,.string S] 63)) none:=World.grownBy_alloc _ _ _;have HG1:=hid hg1;unfold De.body;simp only;clear h0 hS hsz hbx hg1;by_cases e3:k=3
 ·subst e3;rw[if_pos rfl];go_enter func60,ntmps60
  go_wp2_with (go_at_call 94;refine(zDq n _).mono ?_;rintro e w2 ⟨u,rfl,hg2,hB2,h02⟩;have HG2:=hid (zAb HG1.out hg2);have HB2:=hid hB2;have H02:=hid h02;clear hg2 hB2 h02)
  go_ret3
  exact⟨HG2.out,_,rfl,HB2.out,H02.out⟩
 rw[if_neg e3];have z3:((k:Int)==3)=false:=by simpa using e3
 by_cases e4:k=4
 ·subst e4;rw[if_pos rfl];go_enter func60,ntmps60
  go_wp2_with (go_at_call 94;refine(zDq n _).mono ?_;rintro e w2 ⟨u,rfl,hg2,hB2,h02⟩;have HG2:=hid (zAb HG1.out hg2);have HB2:=hid hB2;have H02:=hid h02;clear hg2 hB2 h02)
  go_ret3
  exact⟨HG2.out,_,rfl,HB2.out,H02.out⟩
 rw[if_neg e4];have z4:((k:Int)==4)=false:=by simpa using e4
 by_cases e5:k=5
 ·subst e5;rw[if_pos rfl];cases is
  ·go_enter func60,ntmps60
   go_wp2
   go_ret3
   exact⟨zAc HG1.out _,_,rfl,Bytes.lit (l:=[0]) (alloc_at2 _ _ _) (by simp),Whole0.some _ _ _⟩
  ·go_enter func60,ntmps60
   go_wp2
   go_ret3
   exact⟨zAc HG1.out _,_,rfl,Bytes.lit (l:=[255]) (alloc_at2 _ _ _) (by simp),Whole0.some _ _ _⟩
 rw[if_neg e5];have z5:((k:Int)==5)=false:=by simpa using e5
 by_cases e6:k=6
 ·subst e6;rw[if_pos rfl];go_enter func60,ntmps60
  go_wp2
  go_quiet (fail)
  go_wp2
  go_ret3
  exact⟨zAd HG1.out _,_,rfl,HB.out.grown (zAd HG1.out _),H0.out⟩
 rw[if_neg e6];have z6:((k:Int)==6)=false:=by simpa using e6
 by_cases e7:k=7
 ·subst e7;rw[if_pos rfl];have HA:=hid (fun W=>zCY S n (by have:=HZ.out;omega) W);rw[HS.out]at HA;obtain⟨q,hq⟩:∃ q,q=Pt.asked tl n:=⟨_,rfl⟩
  rw[<-hq]at HA ⊢;clear hq;obtain⟨R,hR⟩:∃ R:Except Nat (Nat×List Nat),R=(if q=0 then .ok (12,tl)else .error q):=⟨_,rfl⟩
  rw[<-hR];have HR:=hid hR;clear hR;go_enter func60,ntmps60
  go_wp2
  refine zJF _ w.heap.size S n q _ _ _ rfl rfl (fun w=>by simp[go_sem]) (fun w=>by simp[go_sem]) (fun W hg=>zMU (cell_blk ((hg.block _ (zAi HX.out) (by simp)).trans HX.out) 4 rfl)) (fun W hg=>zKT (cell_blk ((hg.block _ (zAi HX.out) (by simp)).trans HX.out) 1 rfl)) (fun W=>HA.out W) ⟨rfl,rfl,rfl,Nat.le_refl _,fun _ _ _=>rfl⟩ (fun us w4 hg4 h2 h3=>?_);have h2':us 2=.int .i64 12:=h2;simp only[zAA,zAN,Act.put,List.setIfInBounds_toArray,List.set_cons_succ,List.set_cons_zero,h2'];have H3:=hid h3;have HG4:=hid hg4;clear h2 h2' h3 hg4;generalize us 3=u3 at *;go_wp2
  go_ret3
  rw[HR.out];refine⟨zAb HG1.out HG4.out,?_⟩;by_cases hq0:q=0
  ·subst hq0;rw[if_pos rfl];exact⟨_,rfl,by rw[<-HS.out];exact H3.out.1,H3.out.2⟩
  ·rw[if_neg hq0];exact⟨_,_,rfl⟩
 rw[if_neg e7];have z7:((k:Int)==7)=false:=by simpa using e7
 by_cases e8:k=8
 ·subst e8;rw[if_pos rfl];have HP:=hid (fun W=>zE0 S W (by have:=HZ.out;omega));rw[HS.out]at HP;cases hp:Od.parse tl with
  |error q =>
   rw[hp]at HP;have hq0:(q:Int)≠0:=by have:=De.parse_err hp;omega
   clear hp;go_enter func60,ntmps60
   go_wp2_with (go_at_call 96;refine(HP.out _).mono ?_;rintro e w2 ⟨rfl,hg2⟩;have HG2:=hid (zAb HG1.out hg2);clear hg2)
   go_ret3
   exact⟨HG2.out,_,_,rfl⟩
  |ok l =>
   rw[hp]at HP;have hr:=(Od.parse_ok hp).2;clear hp;go_enter func60,ntmps60
   go_wp2_with (first
    |(go_at_call 96;refine(HP.out _).mono ?_;rintro e w2 ⟨u,rfl,hF2⟩;have HG2:=hid (zAb HG1.out hF2.grown);have HI2:=hid hF2.ints;clear hF2)
    |(go_at_call 97;refine(zFT _ l _ HI2.out hr).mono ?_;rintro e w3 ⟨u3,rfl,hF3⟩;have HG3:=hid (zAb HG2.out hF3.grown);have HO3:=hid hF3.own;clear hF3))
   go_ret3
   exact⟨HG3.out,_,rfl,Bytes.own HO3.out (De.oput_lt l),Whole0.own HO3.out⟩
 rw[if_neg e8];have z8:((k:Int)==8)=false:=by simpa using e8
 by_cases e9:k=9
 ·subst e9;rw[if_pos rfl];by_cases hn0:n<0
  ·rw[if_pos (.inl hn0)];go_enter func60,ntmps60
   go_wp2
   go_ret3
   exact⟨HG1.out,_,_,rfl⟩
  ·by_cases hn1:253402300799<n
   ·rw[if_pos (.inr hn1)];go_enter func60,ntmps60
    go_wp2
    go_ret3
    exact⟨HG1.out,_,_,rfl⟩
   ·rw[if_neg (by omega)];obtain⟨t,rfl⟩:=Int.eq_ofNat_of_zero_le (by omega:0<=n);have ht:t<=253402300799:=by omega
    rw[Int.toNat_natCast];have hr:=(Cal.of_right ht).1;go_enter func60,ntmps60
    go_wp2_with (first
     |(go_at_call 99;refine(zIC t ht _).mono ?_;rintro e w2 ⟨rfl,hg2⟩;have HG2:=hid (zAb HG1.out hg2);clear hg2)
     |(go_at_call 98;refine(zE2 _ hr _).mono ?_;rintro e w3 ⟨u3,rfl,hF3⟩;have HG3:=hid (zAb HG2.out hF3.grown);have HO3:=hid hF3.own;clear hF3))
    go_ret3
    exact⟨HG3.out,_,rfl,Bytes.own HO3.out (De.ctext_lt hr),Whole0.own HO3.out⟩
 rw[if_neg e9];have z9:((k:Int)==9)=false:=by simpa using e9
 by_cases hn0:n<0
 ·rw[if_pos (.inl hn0)];go_enter func60,ntmps60
  go_wp2
  go_ret3
  exact⟨HG1.out,_,_,rfl⟩
 ·by_cases hn1:32767<n
  ·rw[if_pos (.inr hn1)];go_enter func60,ntmps60
   go_wp2
   go_ret3
   exact⟨HG1.out,_,_,rfl⟩
  ·rw[if_neg (by omega)];obtain⟨t,rfl⟩:=Int.eq_ofNat_of_zero_le (by omega:0<=n);have ht:t<32768:=by omega
   rw[Int.toNat_natCast];go_enter func60,ntmps60
   go_wp2_with (go_at_call 100;refine(zE5 t ht _).mono ?_;rintro e w2 ⟨u,rfl,hB2,hg2⟩;have HG2:=hid (zAb HG1.out hg2);have HB2:=hid hB2;clear hg2 hB2)
   go_ret3
   exact⟨HG2.out,_,rfl,HB2.out,zEL HB2.out (zJo t)⟩
theorem RefW.after {W0 w w2 w':World} {F:Nat->Prop} {b:Nat} {s':De.St} (hg:w.grownBy w2 none) (h:Upto (Ext F w w2) w2 w'/\RefW W0 (Ext (Ext F w w2) w2 w') b s' w'):Upto F w w'/\RefW W0 (Ext F w w') b s' w':=by
 obtain⟨k1,k2⟩:=h;have eX:Ext (Ext F w w2) w2 w'=Ext F w w':=funext fun k=>propext (Ext.trans hg.size k1.size k)
 rw[eX]at k2;exact⟨(Upto.of_grown F hg).trans k1 (fun k hk hf=>by
  rcases hf with hf|hf
  ·exact hf
  ·omega),k2⟩
theorem zKC {v:De.Val} {t:Nat} {l:List Nat} (h:De.body v=.ok (t,l)):t<256:=by
 have pr:∀ {a c:Nat} {x y:List Nat},(Except.ok (a,x):Except Nat (Nat×List Nat))=.ok (c,y)->a=c:=fun e=>(Prod.mk.inj (Except.ok.inj e)).1
 unfold De.body at h
 repeat' split at h
 all_goals first
  |(have:=pr h;omega)
  |exact absurd h (by simp)
theorem zIE {W0 w:World} {F:Nat->Prop} {b:Nat} {s:De.St} (h:RefW W0 F b s w) (he:s.e≠0) (v:Value) (x:De.Val) (hv:ValV w v x) :
  Calls prog 25 #[.pointer (some ⟨b,0,none⟩),v] w fun e w'=>e=.returned (.tuple #[])/\Upto F w w'/\RefW W0 (Ext F w w') b s w':=by
 have HX:=hid h;obtain⟨tv,rv,hc,_⟩:=h.body;have c2:=cell_blk hc 2 rfl;have hbl:=zAi hc;obtain⟨k,n,is,bl,tl⟩:=x;obtain⟨bv,S,rfl,hB,_⟩:=hv;obtain⟨_,va,vsb,vso,vc,rfl,_⟩:=hB;simp only;have hz:((s.e:Nat):Int)≠0:=by omega
 have hg:w.grownBy (w.alloc (.cells #[.int .i64 k,.int .i64 n,.bool is,.slice va bl.length vc,.string S] 63)) none:=World.grownBy_alloc _ _ _;have HG:=hid hg;have c2':=World.cell?_alloc_some w ⟨b,2,none⟩ (.cells #[.int .i64 k,.int .i64 n,.bool is,.slice va bl.length vc,.string S] 63) (by rw[c2];rfl);rw[c2]at c2';clear h hc hg;go_enter func25,ntmps25
 go_wp2
 go_returns
 exact⟨rfl,Upto.of_grown F HG.out,HX.out.grow HG.out⟩
theorem zF1 {W0 w:World} {F:Nat->Prop} {b:Nat} {s:De.St} (h:RefW W0 F b s w) (he:s.e=0) (hsm:∀ k,(zAI s k).length<=2000) (v:Value) (x:De.Val) (hv:ValV w v x) (k1:x.kind≠1) (k2:x.kind≠2) (k11:x.kind≠11) :
  Calls prog 25 #[.pointer (some ⟨b,0,none⟩),v] w fun e w'=>e=.returned (.tuple #[])/\Upto F w w'/\RefW W0 (Ext F w w') b (De.step s x) w':=by
 have HX:=hid h;have HSm:=hid hsm;have hst:De.step s x=De.plainV s x:=by unfold De.step;rw[if_neg (by omega),if_neg k1,if_neg k2,if_neg k11]
 rw[hst];obtain⟨tv,rv,hc,_⟩:=h.body;have c2:=cell_blk hc 2 rfl;have f2:=zAh hc 2;have hbl:=zAi hc;have z1:((x.kind:Int)==1)=false:=by simpa using k1
 have z2:((x.kind:Int)==2)=false:=by simpa using k2
 have z11:((x.kind:Int)==11)=false:=by simpa using k11
 have HV:=hid hv;obtain⟨bv,S,rfl,hB,_⟩:=hv;obtain⟨_,va,vsb,vso,vc,rfl,_⟩:=hB;have hg:w.grownBy (w.alloc (.cells #[.int .i64 x.kind,.int .i64 x.n,.bool x.is,.slice va x.b.length vc,.string S] 63)) none:=World.grownBy_alloc _ _ _;have HG:=hid hg;have c2':=World.cell?_alloc_some w ⟨b,2,none⟩ (.cells #[.int .i64 x.kind,.int .i64 x.n,.bool x.is,.slice va x.b.length vc,.string S] 63) (by rw[c2];rfl);rw[c2,he]at c2';have hR:=zF4 _ x _ (HV.out.grown hg);have HR:=hid hR;generalize x.kind=kk at *;generalize x.n=nn at *;generalize x.is=ii at *;generalize x.b.length=bb at *;unfold De.plainV;cases hp:De.body x with
 |error q =>
  have hq0:(q:Int)≠0:=by have:=De.body_err hp;omega
  rw[hp]at HR;clear h hc hg hst hsm hp hR k1 k2 k11;go_enter func25,ntmps25
  go_wp2_with (go_at_call 60;refine HR.out.mono ?_;rintro e w2 ⟨hg2,t,u,rfl⟩;have hg3:=zAb HG.out hg2;have HG2:=hid hg3;have d2:=(World.cell?_of_block (hg3.block _ hbl (by simp))).trans c2;have e2:=(World.frozen?_of_block (hg3.block _ hbl (by simp))).trans f2;clear hg2 hg3)
  go_returns
  exact⟨rfl,RefW.after HG2.out ((HX.out.grow HG2.out).err q (by omega))⟩
 |ok p =>
  obtain⟨t,l⟩:=p;have ht:=zKC hp;rw[hp]at HR;clear h hc hg hst hsm hp hR k1 k2 k11;go_enter func25,ntmps25
  go_wp2_with (first
   |(go_at_call 60;refine HR.out.mono ?_;rintro e w2 ⟨hg2,u,rfl,hB2,h02⟩;have HG2:=hid (zAb HG.out hg2);have HB2:=hid hB2;have H02:=hid h02;clear hg2 hB2 h02)
   |(go_at_call 57;refine(zDm (HX.out.grow HG2.out) he HSm.out t ht _ l HB2.out H02.out).mono ?_;rintro e w3 ⟨rfl,k1,k2⟩;have K1:=hid k1;have K2:=hid k2;clear k1 k2))
  go_returns
  exact⟨rfl,RefW.after HG2.out ⟨K1.out,K2.out⟩⟩
theorem zH7 {w:World} {v:Value} {l:List Int} (h:Ints w v l):Vals w v (cellsI l):=by
 obtain⟨a,sb,so,c,rfl,h1,h2,h3⟩:=h;refine⟨a,sb,so,c,by rw[zBc],by rw[zBc];exact h1,by rw[zBc];exact h2,fun j u hj=>?_⟩;have hjl:j<l.length:=by rw[<-zBc];exact(List.getElem?_eq_some_iff.1 hj).1
 rw[zCD l j hjl]at hj;rw[<-Option.some.inj hj];exact h3 j hjl
theorem RefW.wide {W0 w:World} {F G:Nat->Prop} {b:Nat} {s:De.St} (h:RefW W0 F b s w) (hFG:∀ k,F k->G k) (hG:∀ k,G k->W0.heap.size<=k/\k<w.heap.size):RefW W0 G b s w:=by
 obtain⟨tv,rv,h1,h2⟩:=h.body;refine⟨h.base,hG,hFG b h.mem,tv,rv,h1,fun he=>?_⟩;have hR:=h2 he;have hi:∀ k,Im W0 F b rv k->Im W0 G b rv k:=fun k hk=>⟨hk.1.imp (hFG k) id,hk.2⟩
 have hlt:∀ k,Im W0 G b rv k->k<w.heap.size:=fun k hk=>by
  rcases hk.1 with hk|hk
  ·exact(hG k hk).2
  ·exact Nat.lt_of_lt_of_le hk h.base.size
 obtain⟨n,xs,hn,ho,hl⟩:=hR.rows;exact⟨fun k hk=>⟨hFG k (hR.rown k hk).1,(hR.rown k hk).2⟩,hR.deep,hR.room,hR.tags.mono hi hlt,n,xs,hn,ho,fun k hk=>by
  obtain⟨ys,hy⟩:=hl k hk;exact⟨ys,hy.mono hi hlt⟩⟩
theorem RefW.still {W0 w w2:World} {F:Nat->Prop} {b:Nat} {s:De.St} (h:RefW W0 F b s w) (hg:w.grownBy w2 none):RefW W0 F b s w2 :=
 h.other (G:=fun _=>False) (G':=fun _=>False) (fun _ h=>h.elim) (Turn.of_grown hg) (fun _ h=>h.elim)
theorem zKf {F:Nat->Prop} {w:World} (hF:∀ k,F k->k<w.heap.size):Sup F w (fun W=>Bytes W (.slice none 0 0) []/\Whole0 (.slice none 0 0)) :=
 ⟨hF,fun w' _=>⟨⟨by simp,none,0,0,0,rfl,Nat.le_refl _,fun h=>absurd h (by simp),fun j hj=>absurd hj (by simp)⟩,fun n c e=>by cases e;exact⟨rfl,rfl⟩⟩⟩
theorem zBW (t:Int) (w:World):Calls prog 55 #[.int .i64 t] w fun e w'=>e=.returned (.bool (Tl.made t))/\w.grownBy w' none :=
 (zBa t w).mono (fun e w' ⟨h1,h2⟩=>⟨h1,by rw[h2];exact zAa _ _⟩)
theorem zDs {W0 w:World} {F:Nat->Prop} {b:Nat} {s:De.St} (h:RefW W0 F b s w) (he:s.e=0) (v:Value) (x:De.Val) (hv:ValV w v x) (k1:x.kind=1) (hno:Tl.made x.n=false∨16<=s.op.length) :
  Calls prog 25 #[.pointer (some ⟨b,0,none⟩),v] w fun e w'=>e=.returned (.tuple #[])/\Upto F w w'/\RefW W0 (Ext F w w') b (De.step s x) w':=by
 have HX:=hid h;have hst:De.step s x=De.opn s x.n:=by unfold De.step;rw[if_neg (by omega),if_pos k1]
 rw[hst];obtain⟨tv,rv,hc,hRw⟩:=h.body;have c2:=cell_blk hc 2 rfl;have f2:=zAh hc 2;have hbl:=zAi hc;obtain⟨bv,S,rfl,hB,h0,_⟩:=hv;rw[k1];obtain⟨_,va,vsb,vso,vc,rfl,_⟩:=hB;have hg:w.grownBy (w.alloc (.cells #[.int .i64 1,.int .i64 x.n,.bool x.is,.slice va x.b.length vc,.string S] 63)) none:=World.grownBy_alloc _ _ _;have HG:=hid hg;have c2':=(World.cell?_of_block (hg.block _ hbl (by simp))).trans c2;have f2':=(World.frozen?_of_block (hg.block _ hbl (by simp))).trans f2;rw[he]at c2';have hR:=hRw he;obtain⟨ta,tc,rfl⟩:∃ ta tc,tv=.slice ta s.op.length tc:=by
  obtain⟨a,sb,so,c,h,_⟩:=hR.tags.now.1;rw[zAJ]at h;exact⟨a,c,h⟩
 have c0:=cell_blk hc 0 rfl;unfold De.opn;by_cases hm:Tl.made x.n=false
 ·rw[if_pos hm];have HM:=hid (zBW x.n (w.alloc (.cells #[.int .i64 1,.int .i64 x.n,.bool x.is,.slice va x.b.length vc,.string S] 63)));rw[hm]at HM;clear h hc hg hst k1 hno hRw hR;go_enter func25,ntmps25
  go_wp2_with (go_at_call 55;refine HM.out.mono ?_;rintro e w2 ⟨rfl,hg2⟩;have hg3:=zAb HG.out hg2;have HG2:=hid hg3;have d2:=(World.cell?_of_block (hg3.block _ hbl (by simp))).trans c2;have e2:=(World.frozen?_of_block (hg3.block _ hbl (by simp))).trans f2;have d0:=(World.cell?_of_block (hg3.block _ hbl (by simp))).trans c0;clear hg2 hg3)
  go_returns
  exact⟨rfl,RefW.after HG2.out ((HX.out.grow HG2.out).err 5 (by omega))⟩
 ·rw[if_neg hm];have hK:16<=s.op.length:=by
   rcases hno with h|h
   ·exact absurd h hm
   ·exact h
  rw[if_pos hK];have hKi:(16:Int)<=(s.op.length:Int):=by omega
  have HM:=hid (zBW x.n (w.alloc (.cells #[.int .i64 1,.int .i64 x.n,.bool x.is,.slice va x.b.length vc,.string S] 63)));rw[show Tl.made x.n=true by simpa using hm]at HM;clear h hc hg hst k1 hno hRw hR hm;go_enter func25,ntmps25
  go_wp2_with (go_at_call 55;refine HM.out.mono ?_;rintro e w2 ⟨rfl,hg2⟩;have hg3:=zAb HG.out hg2;have HG2:=hid hg3;have d2:=(World.cell?_of_block (hg3.block _ hbl (by simp))).trans c2;have e2:=(World.frozen?_of_block (hg3.block _ hbl (by simp))).trans f2;have d0:=(World.cell?_of_block (hg3.block _ hbl (by simp))).trans c0;clear hg2 hg3)
  go_returns
  exact⟨rfl,RefW.after HG2.out ((HX.out.grow HG2.out).err 6 (by omega))⟩
theorem iI:((prog.info? 3).map (fun i=>(i.zero,i.size,i.bytes)))=some (some (.int .i64 0),1,8):=by kernel_rfl
theorem zKb {W0:World} {F:Nat->Prop} {b:Nat} {tv:Value} {s:De.St} {x:Value} {l:List Nat} {w:World} {g n c:Nat} {xs:List Value} {W w1:World} (h:AddR W0 F b tv s x l w (some ⟨g,0,none⟩) n c xs W) (hg:W.grownBy w1 none) (v:Value) :
  (w1.setCell ⟨b,0,none⟩ v).heap[b]?=some (.cells #[v,.slice (some ⟨g,0,none⟩) n c,.int .i64 0] 59 (0,0))/\(w1.setCell ⟨b,0,none⟩ v).ownsRow 0 81 1 (.slice (some ⟨g,0,none⟩) n c) n xs /\
   Upto (Mut b (.slice (some ⟨g,0,none⟩) n c)) w1 (w1.setCell ⟨b,0,none⟩ v):=by
 have hgb:g≠b:=(h.rows.rown g rfl).2;refine⟨?_,zAL (h.own.kept hg (Classical.em _)) (fun e=>hgb (Option.some.inj e)),rfl,rfl,rfl,by rw[zAk];exact Nat.le_refl _,fun k hk hmu=>Below.heap_setCell _ _ _ _ (fun e=>hmu (.inl e))⟩;have:=zAm (i:=0) ((hg.block b (zAi h.cell) (by simp)).trans h.cell) v;simpa using this
theorem zKc {W0:World} {F:Nat->Prop} {b:Nat} {tv:Value} {s:De.St} {x:Value} {l:List Nat} {w:World} {g n c t:Nat} {xs:List Value} {W w1 w5:World} {v1:Value} (h:AddR W0 F b tv s x l w (some ⟨g,0,none⟩) n c xs W)
  (hb:W0.grownBy w none) (hF:∀ k,F k->W0.heap.size<=k/\k<w.heap.size) (hm:F b) (he:s.e=0) (hd:s.op.length<16) (hn:s.op.length+1<n) (h1:FrI W w1 v1 (zAZ s++[(t:Int)]))
  (hb5:w5.heap[b]?=some (.cells #[v1,.slice (some ⟨g,0,none⟩) n c,.int .i64 0] 59 (0,0))) (ho5:w5.ownsRow 0 81 1 (.slice (some ⟨g,0,none⟩) n c) n xs) (hu5:Upto (Mut b (.slice (some ⟨g,0,none⟩) n c)) w1 w5) :
  Upto F w (w5.setCell ⟨g,s.op.length+1,none⟩ (.slice none 0 0))/\RefW W0 (Ext F w (w5.setCell ⟨g,s.op.length+1,none⟩ (.slice none 0 0))) b (opd s t) (w5.setCell ⟨g,s.op.length+1,none⟩ (.slice none 0 0)):=by
 have hgb:g≠b:=(h.rows.rown g rfl).2;have hbW:W0.grownBy W none:=h.upto.base hb (fun k hk=>(hF k hk).1);have hFW:=zAo hb hF h.upto.size;have hu6:Upto (Mut b (.slice (some ⟨g,0,none⟩) n c)) w1 (w5.setCell ⟨g,s.op.length+1,none⟩ (.slice none 0 0)) :=
  hu5.trans ⟨rfl,rfl,rfl,by rw[zAk];exact Nat.le_refl _,fun k hk hmu=>Below.heap_setCell _ _ _ _ (fun e=>hmu (.inr (by rw[e];rfl)))⟩ (fun _ _ h=>h)
 have o1:=h1.own;rw[show(zAZ s++[(t:Int)]).length=s.op.length+1 by rw[List.length_append,zAJ];rfl]at o1;obtain⟨k1,k3⟩:=zIv hbW hFW (.inl hm) h.rows h.le (by omega) hn h.own h.levs h1.grown o1 hu6 (zIT ho5 hn _);have hs3:=k1.size;have eX:Ext (Ext F w W) W (w5.setCell ⟨g,s.op.length+1,none⟩ (.slice none 0 0))=Ext F w (w5.setCell ⟨g,s.op.length+1,none⟩ (.slice none 0 0)):=funext fun k=>propext (Ext.trans h.upto.size hs3 k)
 rw[eX]at k3;have hu:Upto F w (w5.setCell ⟨g,s.op.length+1,none⟩ (.slice none 0 0)):=h.upto.trans k1 (fun k hk hmu=>by
  rcases hmu with rfl|hmu
  ·exact hm
  ·rcases(h.rows.rown k hmu).1 with h'|h'
   ·exact h'
   ·omega)
 refine⟨hu,hu.base hb (fun k hk=>(hF k hk).1),zAo hb hF hu.size,.inl hm,_,_,?_,fun _=>k3⟩;rw[Below.heap_setCell _ _ _ _ (Ne.symm hgb),hb5];simp[opd,he]
theorem zMk {w:World} {base:Nat} {e:TypeId} {g n c:Nat} {xs:List Value} (h:w.ownsRow base e 1 (.slice (some ⟨g,0,none⟩) n c) n xs) {K:Nat} (hK:K<n):(∃ u,w.cell? ⟨g,K,none⟩=some u)/\w.frozen? ⟨g,K,none⟩=false:=by
 rcases h.2 with⟨h1,_⟩|⟨g',cap,cur,h1,h2,h3,h4,h5,h6,h7⟩
 ·exact absurd h1 (by simp)
 ·simp only[Value.slice.injEq,Option.some.injEq,Addr.mk.injEq,and_true,true_and]at h1;obtain⟨rfl,rfl⟩:=h1;have hlt:K<cur.size:=by omega
  exact⟨⟨cur[K],cell_blk h3 K (Array.getElem?_eq_getElem hlt)⟩,zAh h3 K⟩
theorem RefW.from {W0 w w2 w':World} {F:Nat->Prop} {b:Nat} {s':De.St} (hg:w.grownBy w2 none) (hb:W0.grownBy w none) (hF:∀ k,F k->W0.heap.size<=k/\k<w.heap.size) (h:Upto F w2 w'/\RefW W0 (Ext F w2 w') b s' w'):Upto F w w'/\RefW W0 (Ext F w w') b s' w':=by
 have h1:=h.1.size;have h2:=hg.size;refine⟨(Upto.of_grown F hg).trans h.1 (fun k hk hf=>hf),h.2.wide (fun k hk=>?_) (zAo hb hF (by omega))⟩;rcases hk with hk|hk
 ·exact .inl hk
 ·exact .inr (by omega)
theorem zF2 {W0 w:World} {F:Nat->Prop} {b:Nat} {s:De.St} (h:RefW W0 F b s w) (he:s.e=0) (v:Value) (x:De.Val) (hv:ValV w v x) (k1:x.kind=1) (hm:Tl.made x.n=true) (hK16:s.op.length<16) :
  Calls prog 25 #[.pointer (some ⟨b,0,none⟩),v] w fun e w'=>e=.returned (.tuple #[])/\Upto F w w'/\RefW W0 (Ext F w w') b (De.step s x) w':=by
 have HX:=hid h;have hst:De.step s x=opd s x.n.toNat:=by unfold De.step De.opn;rw[if_neg (by omega),if_pos k1,if_neg (by rw[hm];simp),if_neg (by omega)];rfl
 rw[hst];have hx0:=Tl.made_nat x.n hm;obtain⟨t,ht⟩:∃ t:Nat,x.n=(t:Int):=Int.eq_ofNat_of_zero_le (by omega)
 have hbl:=(h.own b h.mem).2;obtain⟨bv,S,rfl,hB,h0,_⟩:=hv;rw[k1];obtain⟨_,va,vsb,vso,vc,rfl,_⟩:=hB;have hg:w.grownBy (w.alloc (.cells #[.int .i64 1,.int .i64 x.n,.bool x.is,.slice va x.b.length vc,.string S] 63)) none:=World.grownBy_alloc _ _ _;have HG:=hid hg;have HBox0:=hid (alloc_at w (.cells #[.int .i64 1,.int .i64 x.n,.bool x.is,.slice va x.b.length vc,.string S] 63));have HM:=hid (zBW x.n (w.alloc (.cells #[.int .i64 1,.int .i64 x.n,.bool x.is,.slice va x.b.length vc,.string S] 63)));rw[hm]at HM;rw[ht]at *;rw[Int.toNat_natCast];obtain⟨K,hK⟩:∃ K,K=s.op.length:=⟨_,rfl⟩
 have HK:=hid hK;rw[<-hK]at hK16
 -- the writer,as it lies
 obtain⟨tv,rv,hc,hRw⟩:=h.body;have hR:=hRw he;obtain⟨ta,tc,rfl⟩:∃ ta tc,tv=.slice ta K tc:=by
  obtain⟨a,sb,so,c,h,_⟩:=hR.tags.now.1;rw[zAJ,<-hK]at h;exact⟨a,c,h⟩
 obtain⟨n0,xs0,hn0,ho0,hl0⟩:=hR.rows;obtain⟨ra0,c0,rfl⟩:∃ ra c,rv=.slice ra n0 c:=by
  obtain⟨a,g,c,h,_⟩:=zAl ho0;exact⟨a,c,h⟩
 have hr0:=cell_blk hc 0 rfl;have hr1:=cell_blk hc 1 rfl;have hr2:=cell_blk hc 2 rfl;rw[he]at hr2;have HE:=hid he;have HST:Hid (∀ w2,w.grownBy w2 none->AddR W0 F b (.slice ta K tc) s (.slice none 0 0) [] w2 ra0 n0 c0 xs0 w2):=hid (fun w2 hg2=>by
  have h2:=h.still hg2;obtain⟨tv2,rv2,hc2,hR2⟩:=h2.body;have hcb:=(hg2.block b hbl (by simp)).trans hc;have hRR:=hR2 he;rw[hcb]at hc2;simp only[Option.some.injEq,Obj.cells.injEq,Array.mk.injEq,List.cons.injEq]at hc2;obtain⟨⟨e1,e2,_⟩,_⟩:=hc2;rw[<-e1,<-e2]at hRR;have eF:Ext F w2 w2=F:=funext fun k=>propext (Ext.refl_iff F w2 k)
  have hi:∀ k,Im W0 F b (.slice ra0 n0 c0) k->¬(fun _:Nat=>False) k:=fun _ _ h=>h
  refine⟨Upto.refl F w2,by rw[hcb,he];rfl,by rw[eF];exact hRR,hn0,ho0.kept hg2 (Classical.em _),fun k hk=>by rw[eF];exact(hl0 k hk).upto (Upto.of_grown (fun _=>False) hg2) hi,?_⟩;rw[eF];exact zKf (fun k hk=>h2.orlt k hk.1))
 have HFo:=hid h.own;have HMe:=hid h.mem;have HBa:=hid h.base;clear h hc hg hst k1 hRw hR hn0 ho0 hl0 hm hx0 ht hK he;go_enter func25,ntmps25
 go_wp2_with (go_at_call 55;refine HM.out.mono ?_;rintro e w2 ⟨rfl,hg2⟩;have hg3:=zAb HG.out hg2;have HG2:=hid hg3;have d2:=(World.cell?_of_block (hg3.block _ hbl (by simp))).trans hr2;have d0:=(World.cell?_of_block (hg3.block _ hbl (by simp))).trans hr0;have HBx:=hid ((hg2.block _ (zAi HBox0.out) (by simp)).trans HBox0.out);have HS:=hid (HST.out w2 hg3);clear hg2 hg3)
 go_loopw [56] (fun _ W=>∃ ra n c xs,Hid (AddR W0 F b (.slice ta K tc) s (.slice none 0 0) [] w2 ra n c xs W)) (fun _ W=>30-zEg b W)
 case atStart=>exact⟨_,_,_,_,HS⟩
 case round =>
  obtain⟨ra,n,c,xs,H⟩:=hrel;have q0:wr.cell? ⟨b,0,none⟩=some (.slice ta K tc):=cell_blk H.out.cell 0 rfl;have q1:wr.cell? ⟨b,1,none⟩=some (.slice ra n c):=cell_blk H.out.cell 1 rfl;have hn:=H.out.le;have hwr:IntKind.i64.wrap ((K:Int)+1)=(K:Int)+1:=by
   simp only[IntKind.wrap,IntKind.bits,IntKind.signed];simp;omega
  have HB2:Hid (W0.grownBy w2 none):=hid (zAV HBa.out HG2.out);have HF2:Hid (∀ k,F k->W0.heap.size<=k/\k<w2.heap.size):=hid (fun k hk=>⟨(HFo.out k hk).1,Nat.lt_of_lt_of_le (HFo.out k hk).2 HG2.out.size⟩);by_cases hnk:n<=K+1
  ·have hnz:(n:Int)<=(K:Int)+1:=by omega
   go_wp2
   go_quiet (fail)
   have H':Hid (AddR W0 F b (.slice ta K tc) s (.slice none 0 0) [] w2 ra n c xs (wr.drewN nq)):=hid (H.out.drewN nq);have hs:(wr.drewN nq).heap.size=wr.heap.size:=rfl;rw[<-hs]at *;generalize wr.drewN nq=wq at *;have HV:Hid (Vals (wq.alloc (.cells #[.slice none 0 0] 81)) (.slice (some ⟨wq.heap.size,0,none⟩) 1 1) [.slice none 0 0]):=hid (Vals.lit (xs:=[.slice none 0 0]) (alloc_at wq _));have HO:Hid ((wq.alloc (.cells #[.slice none 0 0] 81)).ownsRow 0 81 1 (.slice ra n c) n xs):=hid (H'.out.own.alloc _);have HI:=hid iV;have q0':wq.cell? ⟨b,0,none⟩=some (.slice ta K tc):=cell_blk H'.out.cell 0 rfl;have q1':wq.cell? ⟨b,1,none⟩=some (.slice ra n c):=cell_blk H'.out.cell 1 rfl;go_wp2_with (at_builtin;refine zAO (by rfl) (.tmp 72) (.tmp 73) 57 (by rfl) 0 81 (.slice none 0 0) 24 underlying57 HI.out rfl (by decide) _ _ _ (by rfl) HO.out _ [.slice none 0 0] (by rfl) HV.out (Whole0.some _ _ _) (by simp[Value.oneCell']) (by simp;omega) (Nat.zero_le _) ?_;intro v2 w5 ho2 hg2 hv2;obtain⟨a2,g2,c2,hf2,hX1,hX2,hX3,hX4⟩:=zAl ho2;clear hX1 hX2 hX3 hX4;subst hf2;have HN:=hid (H'.out.more HB2.out HF2.out HMe.out (by omega) ho2 hg2 hv2);have p0:=H'.out.at2 HF2.out HMe.out hg2;have p1:=cell_blk p0 1 rfl;have p2:=zAh p0 1;clear p0 ho2 hg2 hv2)
   go_roundw
   case rel=>exact⟨_,_,_,_,HN⟩
   case measure =>
    rw[zB5 (cell_blk HN.out.cell 1 rfl),zB5 q1];omega
  ·have hnz:¬(n:Int)<=(K:Int)+1:=by omega
   obtain⟨g,rfl,hgw⟩:∃ g,ra=some ⟨g,0,none⟩/\g<wr.heap.size:=by
    rcases H.out.own.2 with⟨_,h0⟩|⟨g,cap,cur,h4,_,h5,_⟩
    ·omega
    ·simp only[Value.slice.injEq]at h4;exact⟨g,h4.1,zAi h5⟩
   go_wp2
   go_quiet (fail)
   have H':Hid (AddR W0 F b (.slice ta K tc) s (.slice none 0 0) [] w2 (some ⟨g,0,none⟩) n c xs (wr.drewN nq)):=hid (H.out.drewN nq);have hs:(wr.drewN nq).heap.size=wr.heap.size:=rfl;rw[<-hs]at hgw;clear q0 q1 H hs;generalize wr.drewN nq=W at *;have hcb:W.cell? ⟨b,0,none⟩=some (.slice ta K tc):=cell_blk H'.out.cell 0 rfl;have hbW:b<W.heap.size:=zAi H'.out.cell;have hbf:=zAh H'.out.cell 0;have hgl2:w.heap.size<w2.heap.size:=by have:=zAi HBx.out;omega
   have hbox:W.heap[w.heap.size]?=some (.cells #[.int .i64 1,.int .i64 (t:Int),.bool x.is,.slice va x.b.length vc,.string S] 63 (0,0)):=(H'.out.upto.block _ hgl2 (fun hf=>by have:=(HFo.out _ hf).2;omega)).trans HBx.out;have hne:b≠w.heap.size:=by omega
   have hKS:∀ w',W.grownBy w' none->w'.cell? ⟨w.heap.size,1,none⟩=some (.int .i64 (t:Int)):=fun w' hg'=>cell_blk ((hg'.block _ (zAi hbox) (by simp)).trans hbox) 1 rfl
   have hKG:∀ w',W.grownBy w' none->w'.cell? ⟨b,0,none⟩=some (.slice ta K tc):=fun w' hg'=>(World.cell?_of_block (hg'.block _ hbW (by simp))).trans hcb
   have hKF:∀ w',W.grownBy w' none->w'.frozen? ⟨b,0,none⟩=false:=fun w' hg'=>(World.frozen?_of_block (hg'.block _ hbW (by simp))).trans hbf
   have e0:=hKG _ (zAa _ _);have e1:=hKG _ (zAc (o:=.cells #[] 3) (zAa _ _));have e2:=hKG _ (zAc (o:=.cells #[.int .i64 (t:Int)] 3) (zAa _ _));have e3:=hKG _ (zAc (o:=.cells #[.int .i64 (t:Int)] 3) (zAc (o:=.cells #[] 3) (zAa _ _)));have e4:=hKG _ (zAc (o:=.cells #[] 3) (zAc (o:=.cells #[.int .i64 (t:Int)] 3) (zAa _ _)));have KS:=hid hKS;have KG:=hid hKG;have KF:=hid hKF;obtain⟨tg,htg⟩:∃ tg,tg=zAZ s:=⟨_,rfl⟩
   have HTg:=hid htg;have htl:tg.length=K:=by rw[htg,zAJ];exact HK.out.symm
   have HTl:=hid htl;have HV1:Hid (Vals W (.slice ta K tc) (cellsI tg)):=hid (zH7 (by rw[htg];exact H'.out.rows.tags.now.1));have HW0:Hid (Whole0 (.slice ta K tc)):=hid H'.out.rows.tags.now.2;have gd:W.grownBy W.drew none:=zAd (zAa _ _) 1;have GD:=hid gd;have FA0:∀ w:World,FrI w (w.alloc (.cells #[] 3)) (.slice (some ⟨w.heap.size,0,none⟩) 0 0) []:=fun w=>⟨World.grownBy_alloc _ _ _,ownsRow_lit (alloc_at w _) (Nat.le_refl _) (by simp)⟩
   have FA1:Hid (FrI W (W.alloc (.cells #[] 3)).drew (.slice (some ⟨W.heap.size,0,none⟩) 0 0) []):=hid ⟨zAd (FA0 W).grown 1,(FA0 W).own⟩;have FA2:Hid (FrI W ((W.alloc (.cells #[] 3)).alloc (.cells #[.int .i64 (t:Int)] 3)).drew (.slice (some ⟨W.heap.size,0,none⟩) 0 0) []):=hid ⟨zAd ((FA0 W).alloc _).grown 1,((FA0 W).alloc _).own⟩;have FA3:Hid (FrI W ((W.alloc (.cells #[.int .i64 (t:Int)] 3)).alloc (.cells #[] 3)).drew (.slice (some ⟨W.heap.size+1,0,none⟩) 0 0) []):=hid (by
    have h1:=FA0 (W.alloc (.cells #[.int .i64 (t:Int)] 3));rw[zAe]at h1;exact⟨zAd (zAc (zAc (zAa _ _) _) _) 1,zBy h1.own (by rw[zAe];omega)⟩)
   have P12:Hid (((W.alloc (.cells #[] 3)).alloc (.cells #[.int .i64 (t:Int)] 3)).drew.heap[W.heap.size+1]?=some (.cells #[.int .i64 (t:Int)] 3 (0,0))):=hid (by
    have:=alloc_at (W.alloc (.cells #[] 3)) (.cells #[.int .i64 (t:Int)] 3);rwa [zAe]at this)
   have P21:Hid (((W.alloc (.cells #[.int .i64 (t:Int)] 3)).alloc (.cells #[] 3)).drew.heap[W.heap.size]?=some (.cells #[.int .i64 (t:Int)] 3 (0,0))):=hid (zAt (alloc_at W _));obtain⟨K1,hK1⟩:∃ K1,K1=K+1:=⟨_,rfl⟩
   have HK1:=hid hK1;have hnz1:(K1:Int)<(n:Int):=by omega
   have HI8:=hid iI;clear hKS hKG hKF hcb hbf gd FA0 htg htl hK1 hbox;go_wp2
   refine wp_region_held_drew (S:=(fun w'=>w'.cell? ⟨w.heap.size,1,none⟩=some (.int .i64 (t:Int)))) (by kernel_rfl) (by first|(dsimp only;(first|exact KS.out _ GD.out|exact KS.out _ (zAd (zAc (zAa _ _) _) 1)|exact KS.out _ (zAd (zAc (zAc (zAa _ _) _) _) 1)|exact KS.out _ K11.out|exact KS.out _ K10.out|exact KS.out _ (zAc K10.out _)|(rw[World.cell?_setCell_far _ _ _ _ hne];exact KS.out _ K11.out)))|(first|exact KS.out _ GD.out|exact KS.out _ (zAd (zAc (zAa _ _) _) 1)|exact KS.out _ (zAd (zAc (zAc (zAa _ _) _) _) 1)|exact KS.out _ K11.out|exact KS.out _ K10.out|exact KS.out _ (zAc K10.out _)|(rw[World.cell?_setCell_far _ _ _ _ hne];exact KS.out _ K11.out))) (fun hHeld=>?_);refine wpAnyH_take (i:=0) (oi:=({ dst:=_,op:=_,type:=_,pos:=_,after:=_,guard:=_ }:Oper)) (v:=?_) rfl (by kernel_rfl) (by kernel_rfl) (by kernel_rfl) (fun _ _ _ h=>h) (Or.inl ⟨by rfl,?_⟩) (by assumption) ?_
   rotate_left
   focus (intro w hSw;(try dsimp only at hSw);go_simp;try with_reducible rfl)
   try simp only[Act.put,List.setIfInBounds_toArray,List.set_cons_zero,List.set_cons_succ]
   refine wpAnyH_take (i:=2) (oi:=({ dst:=_,op:=_,type:=_,pos:=_,after:=_,guard:=_ }:Oper)) (v:=?_) rfl (by kernel_rfl) (by kernel_rfl) (by kernel_rfl) (fun _ _ _ h=>h) (Or.inl ⟨by rfl,?_⟩) (by assumption) ?_
   rotate_left
   focus (intro w hSw;(try dsimp only at hSw);go_simp;try with_reducible rfl)
   try simp only[Act.put,List.setIfInBounds_toArray,List.set_cons_zero,List.set_cons_succ]
   refine wpAnyH_take (i:=3) (oi:=({ dst:=_,op:=_,type:=_,pos:=_,after:=_,guard:=_ }:Oper)) (v:=?_) rfl (by kernel_rfl) (by kernel_rfl) (by kernel_rfl) (fun _ _ _ h=>h) (Or.inl ⟨by rfl,?_⟩) (by assumption) ?_
   rotate_left
   focus (intro w hSw;(try dsimp only at hSw);go_simp;try with_reducible rfl)
   try simp only[Act.put,List.setIfInBounds_toArray,List.set_cons_zero,List.set_cons_succ]
   refine wpAnyH_take (i:=4) (oi:=({ dst:=_,op:=_,type:=_,pos:=_,after:=_,guard:=_ }:Oper)) (v:=?_) rfl (by kernel_rfl) (by kernel_rfl) (by kernel_rfl) (fun _ _ _ h=>h) (Or.inl ⟨by rfl,?_⟩) (by assumption) ?_
   rotate_left
   focus (intro w hSw;(try dsimp only at hSw);go_simp;try with_reducible rfl)
   try simp only[Act.put,List.setIfInBounds_toArray,List.set_cons_zero,List.set_cons_succ]
   refine wpAnyH_take (i:=7) (oi:=({ dst:=_,op:=_,type:=_,pos:=_,after:=_,guard:=_ }:Oper)) (v:=?_) rfl (by kernel_rfl) (by kernel_rfl) (by kernel_rfl) (fun _ _ _ h=>h) (Or.inl ⟨by rfl,?_⟩) (by assumption) ?_
   rotate_left
   focus (intro w hSw;(try dsimp only at hSw);go_simp;try with_reducible rfl)
   try simp only[Act.put,List.setIfInBounds_toArray,List.set_cons_zero,List.set_cons_succ]
   refine wpAnyH_take (i:=8) (oi:=({ dst:=_,op:=_,type:=_,pos:=_,after:=_,guard:=_ }:Oper)) (v:=?_) rfl (by kernel_rfl) (by kernel_rfl) (by kernel_rfl) (fun _ _ _ h=>h) (Or.inl ⟨by rfl,?_⟩) (by assumption) ?_
   rotate_left
   focus (intro w hSw;(try dsimp only at hSw);go_simp;try with_reducible rfl)
   try simp only[Act.put,List.setIfInBounds_toArray,List.set_cons_zero,List.set_cons_succ]
   repeat' first
    |(refine wpAnyH_done (by decide +kernel) ?_ _)
    |(refine wpAnyH_ready (rs:=[1,5,9]) (by decide +kernel) (by simp) ?_)
    |(refine wpAnyH_ready (rs:=[1,5]) (by decide +kernel) (by simp) ?_)
    |(refine wpAnyH_ready (rs:=[1,9]) (by decide +kernel) (by simp) ?_)
    |(refine wpAnyH_ready (rs:=[5,9]) (by decide +kernel) (by simp) ?_)
    |(refine wpAnyH_ready (rs:=[6,9]) (by decide +kernel) (by simp) ?_)
    |(refine wpAnyH_ready (rs:=[6]) (by decide +kernel) (by simp) ?_)
    |(refine wpAnyH_ready (rs:=[5]) (by decide +kernel) (by simp) ?_)
    |(refine wpAnyH_ready (rs:=[1]) (by decide +kernel) (by simp) ?_)
    |(refine wpAnyH_ready (rs:=[10]) (by decide +kernel) (by simp) ?_)
    |(refine wpAnyH_ready (rs:=[13]) (by decide +kernel) (by simp) ?_)
    |(refine wpAnyH_ready (rs:=[9]) (by decide +kernel) (by simp) ?_)
    |exact AllReadyH.nil
    |(refine AllReadyH.cons (o:=({ dst:=_,op:=_,type:=_,pos:=_,after:=_,guard:=_ }:Oper)) rfl (fun Kq hKq=>?_) ?_;(focus ((first|((first|(refine zBh (by rfl) (.tmp 78) (.tmp 82) 51 (by rfl) W.heap.size 3 (.int .i64 0) 8 underlying51 HI8.out rfl (by decide) _ 0 [] (by rfl) (by first|exact FA1.out.own|exact FA2.out.own|exact FA3.out.own) _ (cellsI tg) (by rfl) (HV1.out.grown (by first|exact FA1.out.grown|exact FA2.out.grown|exact FA3.out.grown)) HW0.out (zD8 tg) (by have:=HTl.out;rw[zBc];omega) (by first|exact FA1.out.grown.size|exact FA2.out.grown.size|exact FA3.out.grown.size) ?_;intro v10 w10 ho10 hg10;have F10:Hid (FrI W w10 v10 tg):=(by first|exact hid (FA1.out.step ho10 hg10 rfl)|exact hid (FA2.out.step ho10 hg10 rfl)|exact hid (FA3.out.step ho10 hg10 rfl));have G10:=hid hg10;have K10:Hid (W.grownBy w10 none):=hid F10.out.grown;clear ho10 hg10)|(refine zBh (by rfl) (.tmp 83) (.tmp 86) 51 (by rfl) W.heap.size 3 (.int .i64 0) 8 underlying51 HI8.out rfl (by decide) _ _ _ (by rfl) (by first|exact F10.out.own|exact(F10.out.alloc _).own) _ [.int .i64 (t:Int)] (by rfl) (by first|exact Vals.lit (xs:=[.int .i64 (t:Int)]) (alloc_at w10 _)|exact zBg G10.out P12.out (by intro e;have:=Option.some.inj (show some W.heap.size=some (W.heap.size+1)from e);omega)|exact zBg G10.out P21.out (by intro e;have:=Option.some.inj (show some (W.heap.size+1)=some W.heap.size from e);omega)) (Whole0.some _ _ _) (by intro u hu;rw[List.mem_singleton]at hu;subst hu;rfl) (by have:=HTl.out;simp;omega) (by first|exact F10.out.grown.size|exact(F10.out.alloc _).grown.size) ?_;intro v11 w11 ho11 hg11;have F11:Hid (FrI W w11 v11 (tg++[(t:Int)])):=(by first|exact hid (F10.out.step ho11 hg11 (by rw[zBo];rfl))|exact hid ((F10.out.alloc _).step ho11 hg11 (by rw[zBo];rfl)));obtain⟨a11,g11,c11,hv11,hX1,hX2,hX3,hX4⟩:=zAl F11.out.own;clear hX1 hX2 hX3 hX4;rw[show(tg++[(t:Int)]).length=K1 by rw[List.length_append,HTl.out,HK1.out];rfl]at hv11;subst hv11;have K11:Hid (W.grownBy w11 none):=hid F11.out.grown;have e11:=KG.out _ K11.out;have fz11:=KF.out _ K11.out;clear ho11 hg11)))|go_simp);(refine hKq.out _ _ (by first|(dsimp only;(first|exact KS.out _ GD.out|exact KS.out _ (zAd (zAc (zAa _ _) _) 1)|exact KS.out _ (zAd (zAc (zAc (zAa _ _) _) _) 1)|exact KS.out _ K11.out|exact KS.out _ K10.out|exact KS.out _ (zAc K10.out _)|(rw[World.cell?_setCell_far _ _ _ _ hne];exact KS.out _ K11.out)))|(first|exact KS.out _ GD.out|exact KS.out _ (zAd (zAc (zAa _ _) _) 1)|exact KS.out _ (zAd (zAc (zAc (zAa _ _) _) _) 1)|exact KS.out _ K11.out|exact KS.out _ K10.out|exact KS.out _ (zAc K10.out _)|(rw[World.cell?_setCell_far _ _ _ _ hne];exact KS.out _ K11.out))) (fun hHeld=>?_));(clear hKq Kq);(try simp only[Act.put,List.setIfInBounds_toArray,List.set_cons_zero,List.set_cons_succ]))))
    |(refine wpAnyH_take (i:=11) (oi:=({ dst:=_,op:=_,type:=_,pos:=_,after:=_,guard:=_ }:Oper)) (v:=?_) rfl (by kernel_rfl) (by kernel_rfl) (by decide +kernel) (fun _ _ _ h=>h) (Or.inl ⟨by rfl,?_⟩) (by assumption) ?_;rotate_left;focus (intro w hSw;(try dsimp only at hSw);go_simp;try with_reducible rfl);try simp only[Act.put,List.setIfInBounds_toArray,List.set_cons_zero,List.set_cons_succ])
    |(refine wpAnyH_take (i:=12) (oi:=({ dst:=_,op:=_,type:=_,pos:=_,after:=_,guard:=_ }:Oper)) (v:=?_) rfl (by kernel_rfl) (by kernel_rfl) (by decide +kernel) (fun _ _ _ h=>h) (Or.inl ⟨by rfl,?_⟩) (by assumption) ?_;rotate_left;focus (intro w hSw;(try dsimp only at hSw);go_simp;try with_reducible rfl);try simp only[Act.put,List.setIfInBounds_toArray,List.set_cons_zero,List.set_cons_succ])
   all_goals
    obtain⟨m1,m2,m3⟩:=zKb H'.out K11.out (.slice a11 K1 c11);have M1:=hid m1;have M2:=hid m2;have M3:=hid m3;have hgl:g<(w11.setCell ⟨b,0,none⟩ (.slice a11 K1 c11)).heap.size:=by
     rcases m2.2 with⟨h,_⟩|⟨g',_,_,h,_,h3,_⟩
     ·exact absurd h (by simp)
     ·simp only[Value.slice.injEq,Option.some.injEq,Addr.mk.injEq,and_true,true_and]at h;obtain⟨rfl,_⟩:=h;exact zAi h3
    have q0:=cell_blk m1 0 rfl;have q1:=cell_blk m1 1 rfl;obtain⟨hcg,hfg⟩:=zMk m2 (by omega:K1<n);have hgb:g≠b:=(H'.out.rows.rown g rfl).2;clear m1 m2 m3 e0 e1 e2 e3 e4 e11 fz11;generalize w11.setCell ⟨b,0,none⟩ (.slice a11 K1 c11)=w5 at *
   all_goals
    obtain⟨ug,hug⟩:=hcg;have e15:(w5.drew).cell? ⟨b,0,none⟩=some (.slice a11 K1 c11)/\(w5.drew).cell? ⟨b,1,none⟩=some (.slice (some ⟨g,0,none⟩) n c):=⟨q0,q1⟩;have E15:=hid e15;clear e15;go_wp2
    go_region_held3 (fun w'=>w'.cell? ⟨b,0,none⟩=some (.slice a11 K1 c11)/\w'.cell? ⟨b,1,none⟩=some (.slice (some ⟨g,0,none⟩) n c))
     (first
      |exact E15.out
      |exact⟨(World.cell?_setCell_far w5 ⟨g,K1,none⟩ ⟨b,0,none⟩ _ hgb).trans E15.out.1,(World.cell?_setCell_far w5 ⟨g,K1,none⟩ ⟨b,1,none⟩ _ hgb).trans E15.out.2⟩)
     (fail)
   all_goals
    have hk:K1=s.op.length+1:=by rw[HK1.out,HK.out]
    have hfin:=zKc H'.out HB2.out HF2.out HMe.out HE.out (by rw[<-HK.out];exact hK16) (by omega) (by rw[<-HTg.out];exact F11.out) M1.out M2.out M3.out;rw[<-hk]at hfin;have hfin2:=RefW.from HG2.out HBa.out HFo.out hfin
    have HFin:Hid (Upto F w (w5.setCell ⟨g,K1,none⟩ (.slice none 0 0)).drew/\RefW W0 (Ext F w (w5.setCell ⟨g,K1,none⟩ (.slice none 0 0)).drew) b (opd s t) (w5.setCell ⟨g,K1,none⟩ (.slice none 0 0)).drew):=hid ⟨hfin2.1.drew,hfin2.2.still (zAd (zAa _ _) 1)⟩;clear hfin hfin2;go_wp2
    go_returns
    exact⟨rfl,HFin.out⟩
theorem zBj (s:De.St) {t:Nat} {l:List (List Nat)} {r:List (Nat×List (List Nat))} (hop:s.op=(t,l) :: r):(∀ k,k<=r.length->zAI { s with op:=r } k=zAI s k)/\zAI s (r.length+1)=l:=by
 obtain⟨e,op,dn⟩:=s;simp only at hop;subst hop;refine⟨fun k hk=>?_,?_⟩
 ·unfold zAI;simp only[List.reverse_cons];by_cases h0:k=0
  ·subst h0;simp
  ·rw[if_neg h0,if_neg h0];have:k-1<r.reverse.length:=by simp;omega
   simp only[List.getD_eq_getElem?_getD];rw[List.getElem?_append_left this]
 ·unfold zAI;simp[List.getD_eq_getElem?_getD]
theorem zA6 (s:De.St) {k:Nat} (hk:s.op.length<k):zAI s k=[]:=by
 unfold zAI;rw[if_neg (by omega),List.getD_eq_getElem?_getD,List.getElem?_eq_none (by simp;omega)];rfl
theorem zB4 (s:De.St) {t:Nat} {l:List (List Nat)} {r:List (Nat×List (List Nat))} (hop:s.op=(t,l) :: r):zAZ s=zAZ { s with op:=r }++[(t:Int)]:=by
 unfold zAZ;rw[hop];simp
theorem zJx {W0 w:World} {F:Nat->Prop} {b t:Nat} {s:De.St} {l:List (List Nat)} {r:List (Nat×List (List Nat))} {ta:Option Addr} {tc K:Nat} {rv:Value} (h:RefW W0 F b s w) (he:s.e=0) (hop:s.op=(t,l) :: r)
  (hc:w.heap[b]?=some (.cells #[.slice ta K tc,rv,.int .i64 0] 59 (0,0))) :
  Upto F w (w.setCell ⟨b,0,none⟩ (.slice ta r.length tc))/\RefW W0 F b { s with op:=r } (w.setCell ⟨b,0,none⟩ (.slice ta r.length tc)):=by
 obtain⟨tv2,rv2,hc2,hR2⟩:=h.body;have hR:=hR2 he;rw[hc]at hc2;simp only[Option.some.injEq,Obj.cells.injEq,Array.mk.injEq,List.cons.injEq]at hc2;obtain⟨⟨rfl,rfl,_⟩,_⟩:=hc2;have hs:(w.setCell ⟨b,0,none⟩ (.slice ta r.length tc)).heap.size=w.heap.size:=zAk _ _ _;have hu:Upto (fun k=>k=b) w (w.setCell ⟨b,0,none⟩ (.slice ta r.length tc)):=⟨rfl,rfl,rfl,by omega,fun k hk hmu=>Below.heap_setCell _ _ _ _ (fun e=>hmu e)⟩;have hF:Upto F w (w.setCell ⟨b,0,none⟩ (.slice ta r.length tc)):=hu.mono (fun k _ hk=>by rw[hk];exact h.mem);have hi:∀ k,Im W0 F b rv k->¬ k=b:=fun k hk=>hk.2.1
 have hlen:s.op.length=r.length+1:=by rw[hop];rfl
 refine⟨hF,hF.base h.base (fun k hk=>(h.own k hk).1),fun k hk=>by rw[hs];exact h.own k hk,h.mem,.slice ta r.length tc,rv,?_,fun _=>?_⟩
 ·have:=zAm (i:=0) hc (.slice ta r.length tc);simpa [he]using this
 ·obtain⟨n,xs,hn,ho,hl⟩:=hR.rows;refine⟨hR.rown,by have:=hR.deep;show r.length<=16;omega,(fun h0=>by
   obtain⟨a,n',c',e,hlt⟩:=hR.room (by omega);exact⟨a,n',c',e,by show r.length<n';omega⟩),(hR.tags.upto hu hi).map fun W hW=>⟨?_,?_⟩,n,xs,hn,zAL ho (fun e=>(hR.rown b e).2 rfl),fun k hk=>?_⟩
  ·have h1:=hW.1;have hcap:=h1.cap.1;rw[zAJ]at hcap;have h2:=h1.to r.length (by omega);rw[zB4 s hop,List.take_left' (by rw[zAJ])]at h2;exact h2
  ·intro n' c' e;simp only[Value.slice.injEq]at e;obtain⟨rfl,rfl,rfl⟩:=e;have hcap:=hW.1.cap.1;rw[zAJ]at hcap;have:=hW.2 K tc rfl;omega
  ·have hk':k<=r.length:=hk;rw[(zBj s hop).1 k hk'];exact(hl k (by omega)).upto hu hi
theorem RefW.late {W0 w w1 w2:World} {F:Nat->Prop} {b:Nat} {s':De.St} (hb:W0.grownBy w none) (hF:∀ k,F k->W0.heap.size<=k/\k<w.heap.size) (h:Upto F w w1/\RefW W0 (Ext F w w1) b s' w1) (hg:w1.grownBy w2 none):Upto F w w2/\RefW W0 (Ext F w w2) b s' w2:=by
 have h1:=h.1.size;have h2:=hg.size;refine⟨h.1.trans (Upto.of_grown F hg) (fun _ _ h=>h),(h.2.still hg).wide (fun k hk=>?_) (zAo hb hF (by omega))⟩;rcases hk with hk|hk
 ·exact .inl hk
 ·exact .inr (by omega)
theorem zE7 {W0 w:World} {F:Nat->Prop} {b:Nat} {s:De.St} (h:RefW W0 F b s w) (he:s.e=0) (v:Value) (x:De.Val) (hv:ValV w v x) (k2:x.kind=2) (hop:s.op=[]) :
  Calls prog 25 #[.pointer (some ⟨b,0,none⟩),v] w fun e w'=>e=.returned (.tuple #[])/\Upto F w w'/\RefW W0 (Ext F w w') b (De.step s x) w':=by
 have HX:=hid h;have hst:De.step s x={ s with e:=24 }:=by unfold De.step De.cls;rw[if_neg (by omega),if_neg (by omega),if_pos k2,hop]
 rw[hst];obtain⟨tv,rv,hc,hRw⟩:=h.body;have hbl:=zAi hc;obtain⟨bv,S,rfl,hB,h0,_⟩:=hv;rw[k2];obtain⟨_,va,vsb,vso,vc,rfl,_⟩:=hB;have hg:w.grownBy (w.alloc (.cells #[.int .i64 2,.int .i64 x.n,.bool x.is,.slice va x.b.length vc,.string S] 63)) none:=World.grownBy_alloc _ _ _;have HG:=hid hg;have hR:=hRw he;obtain⟨ta,tc,rfl⟩:∃ ta tc,tv=.slice ta 0 tc:=by
  obtain⟨a,sb,so,c,h,_⟩:=hR.tags.now.1;rw[zAJ,hop]at h;exact⟨a,c,h⟩
 have d2:=(World.cell?_of_block (hg.block _ hbl (by simp))).trans (cell_blk hc 2 rfl);have e2:=(World.frozen?_of_block (hg.block _ hbl (by simp))).trans (zAh hc 2);have d0:=(World.cell?_of_block (hg.block _ hbl (by simp))).trans (cell_blk hc 0 rfl);rw[he]at d2;clear h hc hst k2 hRw hR;go_enter func25,ntmps25
 go_wp2
 go_returns
 exact⟨rfl,RefW.late HX.out.base HX.out.own (HX.out.err 24 (by omega)) (World.grownBy_alloc _ _ _)⟩
theorem zBB:∀ (L:List (List Nat)),(∀ x∈L,x.length<=70000)->L.flatten.length<=70000*L.length
 |[],_=>by simp
 |x :: r,h=>by
  have h1:=zBB r (fun y hy=>h y (List.mem_cons_of_mem _ hy));have h2:=h x (List.mem_cons_self ..);rw[List.flatten_cons,List.length_append,List.length_cons];omega
theorem FW0 (w:World):FrW w (w.alloc (.cells #[] 5)) (.slice (some ⟨w.heap.size,0,none⟩) 0 0) []:=⟨World.grownBy_alloc _ _ _,ownsRow_lit (alloc_at w _) (Nat.le_refl _) (by simp)⟩
theorem zDj {w:World} {a:Option Addr} {j c:Nat} {ys:List Value} {L:List (List Nat)} (hV:Vals w (.slice a j c) ys) (hE:Each w ys L) (hl:L.length=j) :
  ∃ sb so,∀ W,w.grownBy W none->∀ i,i<j->a=some ⟨sb,so,none⟩/\∃ y,W.cell? ⟨sb,so+i,none⟩=some y/\Bytes W y (L.getD i [])/\Whole0 y:=by
 have hj:=hV.cap.1;obtain⟨a',sb,so,c',e,_,h1,h2⟩:=hV;simp only[Value.slice.injEq]at e;obtain⟨rfl,_,rfl⟩:=e;refine⟨sb,so,fun W hW i hi=>?_⟩;obtain⟨k1,k2⟩:=h1 (by omega);obtain⟨y,k3,k4,k5⟩:=hE.at_ i (by omega);exact⟨k1,y,by rw[World.cell?_of_block (hW.block sb k2 (by simp))];exact h2 i y k3,k4.grown hW,k5⟩
theorem zJG {w:World} {base:Nat} {e:TypeId} {v:Value} {n:Nat} {xs:List Value} (h:w.ownsRow base e 1 v n xs) {b:Nat} (hb:b<base):v.ownBlock≠some b:=fun e=>by
 rcases h.2 with⟨h1,_⟩|⟨g,_,_,h1,h2,_⟩
 ·rw[h1]at e;exact absurd e (by simp[Value.ownBlock])
 ·rw[h1]at e;have e2:g=b:=Option.some.inj e;omega
theorem RefW.join {W0 w w5 w':World} {F:Nat->Prop} {b:Nat} {s':De.St} (hb:W0.grownBy w none) (hF:∀ k,F k->W0.heap.size<=k/\k<w.heap.size) (hu:Upto F w w5) (h:Upto F w5 w'/\RefW W0 (Ext F w5 w') b s' w'):Upto F w w'/\RefW W0 (Ext F w w') b s' w':=by
 have h1:=h.1.size;have h2:=hu.size;refine⟨hu.trans h.1 (fun k hk hf=>hf),h.2.wide (fun k hk=>?_) (zAo hb hF (by omega))⟩;rcases hk with hk|hk
 ·exact .inl hk
 ·exact .inr (by omega)
theorem zE6 {W0 w:World} {F:Nat->Prop} {b:Nat} {s:De.St} (h:RefW W0 F b s w) (he:s.e=0) (hsm:∀ k,(zAI s k).length<=2000) (hbig:∀ k,∀ z∈zAI s k,z.length<=70000) (v:Value) (x:De.Val) (hv:ValV w v x) (k2:x.kind=2)
  {t:Nat} {l:List (List Nat)} {r:List (Nat×List (List Nat))} (hop:s.op=(t,l) :: r) (ht:t<256) :
  Calls prog 25 #[.pointer (some ⟨b,0,none⟩),v] w fun e w'=>e=.returned (.tuple #[])/\Upto F w w'/\RefW W0 (Ext F w w') b (De.step s x) w':=by
 have HX:=hid h;have hst:De.step s x=De.put { s with op:=r } t (if t=49 then Pt.sort l else l).flatten:=by unfold De.step De.cls;rw[if_neg (by omega),if_neg (by omega),if_pos k2,hop]
 rw[hst];obtain⟨tv,rv,hc,hRw⟩:=h.body;have hbl:=zAi hc;obtain⟨bv,S,rfl,hB,h0,_⟩:=hv;rw[k2];obtain⟨_,va,vsb,vso,vc,rfl,_⟩:=hB;obtain⟨w1,hw1⟩:∃ w1,w1=w.alloc (.cells #[.int .i64 2,.int .i64 x.n,.bool x.is,.slice va x.b.length vc,.string S] 63):=⟨_,rfl⟩
 have hg:w.grownBy w1 none:=by rw[hw1];exact World.grownBy_alloc _ _ _
 have HG:=hid hg;have hR:=hRw he;obtain⟨K,hK⟩:∃ K,K=s.op.length:=⟨_,rfl⟩
 obtain⟨R,hRl⟩:∃ R,R=r.length:=⟨_,rfl⟩
 have hKR:K=R+1:=by rw[hK,hRl,hop];rfl
 have hd:=hR.deep;rw[<-hK]at hd;obtain⟨ta,tsb,tso,tc,rfl,htc,hta,hti⟩:∃ ta tsb tso tc,tv=.slice ta K tc/\K<=tc/\(0<K->ta=some ⟨tsb,tso,none⟩/\tsb<w.heap.size)/\∀ j,j<K->w.cell? ⟨tsb,tso+j,none⟩=some (.int .i64 ((zAZ s).getD j 0)):=by
  obtain⟨a,sb,so,c,h,h2,h3,h4⟩:=hR.tags.now.1;rw[zAJ,<-hK]at h h2 h3 h4;exact⟨a,sb,so,c,h,h2,h3,h4⟩
 obtain⟨rfl,htl⟩:=hta (by omega);have htR:(zAZ s).getD R 0=(t:Int):=by
  rw[zB4 s hop,List.getD_eq_getElem?_getD,List.getElem?_append_right (by rw[zAJ];exact Nat.le_of_eq hRl.symm),zAJ]
  show(([(t:Int)])[R-r.length]?).getD 0=_
  rw[hRl,Nat.sub_self];rfl
 have hcR:=hti R (by omega);rw[htR]at hcR;have HTc:Hid (∀ w',w.grownBy w' none->w'.cell? ⟨tsb,tso+R,none⟩=some (.int .i64 (t:Int))):=hid (fun w' hg'=>(World.cell?_of_block (hg'.block _ htl (by simp))).trans hcR);have HBc:Hid (∀ w',w.grownBy w' none->w'.cell? ⟨b,0,none⟩=some (.slice (some ⟨tsb,tso,none⟩) K tc)):=hid (fun w' hg'=>(World.cell?_of_block (hg'.block _ hbl (by simp))).trans (cell_blk hc 0 rfl));have HBf:Hid (∀ w',w.grownBy w' none->w'.frozen? ⟨b,0,none⟩=false):=hid (fun w' hg'=>(World.frozen?_of_block (hg'.block _ hbl (by simp))).trans (zAh hc 0));obtain⟨n,xs,hn,ho,hlv⟩:=hR.rows;obtain⟨ra,c,rfl⟩:∃ ra c,rv=.slice ra n c:=by
  obtain⟨a,g,c,h,_⟩:=zAl ho;exact⟨a,c,h⟩
 obtain⟨ys,hys⟩:=hlv K (by omega);obtain⟨hV,hE,hW0⟩:=hys.now;have hlK:zAI s K=l:=by rw[hKR,hRl];exact(zBj s hop).2
 rw[hlK]at hE;obtain⟨la,lc,hla⟩:∃ la lc,xs.getD K (.slice none 0 0)=.slice la l.length lc:=by
  obtain⟨a,_,_,c,h,_⟩:=hV;rw[hE.len]at h;exact⟨a,c,h⟩
 rw[hla]at hV hW0;obtain⟨g,rfl,hKn,hgl,hgc⟩:∃ g,ra=some ⟨g,0,none⟩/\K<n/\g<w.heap.size/\w.cell? ⟨g,K,none⟩=some (.slice la l.length lc):=by
  obtain⟨a,n',c',e,hlt⟩:=hR.room (by omega);simp only[Value.slice.injEq]at e;obtain⟨rfl,rfl,rfl⟩:=e;have hl:=ho.1;rcases ho.2 with⟨_,h0⟩|⟨g,cap,cur,h4,_,h5,_,_,h6,h7⟩
  ·omega
  ·simp only[Value.slice.injEq]at h4;obtain⟨rfl,_,_⟩:=h4;refine⟨g,rfl,by omega,zAi h5,cell_blk h5 K ?_⟩;rw[<-hla];have hk2:xs[K]?=some (xs.getD K (.slice none 0 0)):=by
    rw[List.getD_eq_getElem?_getD,List.getElem?_eq_getElem (by omega)];rfl
   rw[<-hk2,<-h7,List.getElem?_take,if_pos (by omega)];simp
 have HRc:Hid (∀ w',w.grownBy w' none->w'.cell? ⟨g,K,none⟩=some (.slice la l.length lc)):=hid (fun w' hg'=>(World.cell?_of_block (hg'.block _ hgl (by simp))).trans hgc);have HB1:Hid (∀ w',w.grownBy w' none->w'.cell? ⟨b,1,none⟩=some (.slice (some ⟨g,0,none⟩) n c)):=hid (fun w' hg'=>(World.cell?_of_block (hg'.block _ hbl (by simp))).trans (cell_blk hc 1 rfl));have HCl:Hid (∀ w4:World,w.grownBy w4 none->Upto F w4 (w4.setCell ⟨b,0,none⟩ (.slice (some ⟨tsb,tso,none⟩) R tc))/\RefW W0 F b { s with op:=r } (w4.setCell ⟨b,0,none⟩ (.slice (some ⟨tsb,tso,none⟩) R tc))):=hid (fun(w4:World) (hg4:w.grownBy w4 none)=>by
  rw[hRl];exact zJx (ta:=some ⟨tsb,tso,none⟩) (tc:=tc) (K:=K) (rv:=.slice (some ⟨g,0,none⟩) n c) (h.still hg4) he hop ((hg4.block b hbl (by simp)).trans (by rw[hc,he];rfl)))
 have HBig:Hid (∀ z∈l,z.length<=70000):=hid (fun z hz=>hbig K z (by rw[hlK];exact hz));have HJs:Hid (l.length<=2000):=hid (by have:=hsm K;rwa [hlK]at this);have HV1:=hid (hV.grown hg);have HE1:=hid (hE.grown hg);have HW0:=hid hW0;have c0:=HBc.out _ hg;have c1:=HB1.out _ hg;have c2:=(World.cell?_of_block (hg.block _ hbl (by simp))).trans (cell_blk hc 2 rfl);rw[he]at c2;have cR:=HTc.out _ hg;have cK:=HRc.out _ hg;have hwr:IntKind.i64.wrap ((K:Int)-1)=(R:Int):=by
  simp only[IntKind.wrap,IntKind.bits,IntKind.signed];simp;omega
 have hRK:(R:Int)<(K:Int):=by omega
 have hR0:(0:Int)<=(R:Int):=by omega
 have hRt:(R:Int)<=(tc:Int):=by omega
 have hKi:(K:Int)<(n:Int):=by omega
 have hK0:((K:Int)==0)=false:=by simp;omega
 have HSm:Hid (∀ k,(zAI { s with op:=r } k).length<=2000):=hid (fun k=>by
  by_cases hk:k<=r.length
  ·rw[(zBj s hop).1 k hk];exact hsm k
  ·rw[zA6 _ (by show r.length<k;omega)];simp)
 have HRl:=hid hRl;have HE0:Hid ((({ s with op:=r }:De.St)).e=0):=hid he;subst hw1;obtain⟨j,hj⟩:∃ j,j=l.length:=⟨_,rfl⟩
 have HJl:Hid (l.length=j):=hid hj.symm;rw[<-hj]at HV1 HRc HJs cK HW0;clear h hc hst hRw hR hV hE hys hlv ho hop hbig hsm hgc hla htR hti hcR hj hta htc hlK hRl hd hKR hg;by_cases h49:t=49
 ·rw[if_pos h49];subst h49;clear hK;go_enter func25,ntmps25
  go_wp2_with (first
   |(go_at_call 56;refine(zEi la j lc ys l _ HV1.out HE1.out (by have:=HJs.out;omega)).mono ?_;rintro e w3 ⟨u3,zs,rfl,hf3,he3⟩;have HVz:=hid (Vals.own hf3.own);have hzl:zs.length=j:=by { rw[he3.len,Pt.sort_len];exact HJl.out };obtain⟨a5,c5,hv5⟩:∃ a5 c5,u3=.slice a5 j c5:=by { obtain⟨a,g,c,h,_⟩:=zAl hf3.own;rw[hzl]at h;exact⟨a,c,h⟩ };subst hv5;have HE5:=hid he3;have HG5:=hid (zAb HG.out hf3.grown);have t5:=HTc.out _ HG5.out;have r5:=HRc.out _ HG5.out;have FA:=hid (FW0 w3);clear hf3 he3 hzl)
   |fail)
  have HLL:Hid ((Pt.sort l).length=j):=hid (by rw[Pt.sort_len];exact HJl.out);have HPl:Hid (∀ i,i<=j->((Pt.sort l).take i).flatten.length<=200000000):=hid (fun i hi=>by
   have:=zBB ((Pt.sort l).take i) (fun z hz=>(fun z hz=>HBig.out z (Pt.sort_mem.1 hz)) z (List.mem_of_mem_take hz));rw[List.length_take,HLL.out]at this;have:=HJs.out;omega)
  have HTk:Hid (∀ i,i<j->((Pt.sort l).take (i+1)).flatten=((Pt.sort l).take i).flatten++(Pt.sort l).getD i []):=hid (fun i hi=>zCE _ (by rw[HLL.out];exact hi));have HTe:Hid (((Pt.sort l).take j).flatten=(Pt.sort l).flatten):=hid (by rw[List.take_of_length_le (by rw[HLL.out];exact Nat.le_refl _)]);obtain⟨sb,so,HI⟩:=zDj HVz.out HE5.out HLL.out;have HI3:=hid HI;clear HI;go_loopw [6,133] (fun v i wr=>∃ k:Nat,k<=j/\i=.int .i64 (k:Int)/\FrW w3 wr v ((Pt.sort l).take k).flatten) (fun _ i _=>j-(intOf i).toNat)
  case atStart=>exact⟨0,Nat.zero_le _,rfl,FA.out⟩
  case round =>
   obtain⟨k,hk,rfl,hF⟩:=hrel;have hjs:=HJs.out;have HF:=hid hF;by_cases hkj:k<j
   ·obtain⟨rfl,y,hy,hyb,hy0⟩:=HI3.out wr hF.grown k hkj;have HYb:=hid hyb;have HY0:=hid hy0;have HTk2:=hid (HTk.out k hkj);have HP2:=hid (HPl.out (k+1) (by omega));clear hF hyb hy0;go_wp2_with (at_builtin;refine zAP (by rfl) (.tmp 137) (.tmp 138) 33 (by rfl) w3.heap.size 5 (.int .u8 0) 1 underlying33 (by kernel_rfl) rfl (by decide) _ _ _ (by rfl) HF.out.own _ _ (by rfl) HYb.out HY0.out (by have h1:=HP2.out;rw[HTk2.out,List.length_append]at h1;omega) HF.out.le ?_;intro v4 w4 ho4 hg4;have F4:=hid (HF.out.step (l':=((Pt.sort l).take (k+1)).flatten) ho4 hg4 (by rw[HTk2.out];exact(zAn _ _).symm));clear ho4 hg4)
    go_roundw
    case rel=>exact⟨k+1,by omega,by go_num,F4.out⟩
    case measure=>simp[intOf];omega
   ·obtain rfl:k=j:=by omega
    rw[HTe.out]at HF;have gr:=zAb HG5.out HF.out.grown;have GR:=hid gr;have t6:=HTc.out _ gr;have r6:=HRc.out _ gr;have c6:=HBc.out _ gr;have f6:=HBf.out _ gr;clear hF;have HC4:=hid (HCl.out _ gr);have HLt:=hid HE5.out.lt;have HO6:=hid (zAL (b:=b) (i:=0) (u:=.slice (some ⟨tsb,tso,none⟩) R tc) HF.out.own (zJG HF.out.own (Nat.lt_of_lt_of_le hbl HG5.out.size)));clear gr;have HPut:=hid ((zDm HC4.out.2 HE0.out HSm.out 49 ht _ (Pt.sort l).flatten (Bytes.own HO6.out HLt.out) (Whole0.own HO6.out)).mono (fun e w6 ⟨h1,h2,h3⟩=>(⟨h1,RefW.join HX.out.base HX.out.own ((Upto.of_grown F GR.out).trans HC4.out.1 (fun _ _ h=>h)) ⟨h2,h3⟩⟩:e=Ending.returned (.tuple #[])/\_)));rw[show((49:Nat):Int)=49 from rfl]at HPut;go_wp2_with (go_at_call 57;refine HPut.out.mono ?_;rintro e w6 ⟨rfl,k6⟩;have K6:=hid k6;clear k6)
    go_returns
    exact⟨rfl,K6.out⟩
 ·rw[if_neg h49];have z49:((t:Int)==49)=false:=by simp;omega
  clear hK;go_enter func25,ntmps25
  have FA:=hid (by
   have:=FW0 (w.alloc (.cells #[.int .i64 2,.int .i64 x.n,.bool x.is,.slice va x.b.length vc,.string S] 63));rw[zAe]at this;exact this)
  have HVz:=HV1;have HE5:=HE1;have HG5:=HG;go_wp2
  have HLL:Hid (l.length=j):=hid (HJl.out);have HPl:Hid (∀ i,i<=j->(l.take i).flatten.length<=200000000):=hid (fun i hi=>by
   have:=zBB (l.take i) (fun z hz=>(HBig.out) z (List.mem_of_mem_take hz));rw[List.length_take,HLL.out]at this;have:=HJs.out;omega)
  have HTk:Hid (∀ i,i<j->(l.take (i+1)).flatten=(l.take i).flatten++l.getD i []):=hid (fun i hi=>zCE _ (by rw[HLL.out];exact hi));have HTe:Hid ((l.take j).flatten=l.flatten):=hid (by rw[List.take_of_length_le (by rw[HLL.out];exact Nat.le_refl _)]);obtain⟨sb,so,HI⟩:=zDj HVz.out HE5.out HLL.out;have HI3:=hid HI;clear HI;go_loopw [6,133] (fun v i wr=>∃ k:Nat,k<=j/\i=.int .i64 (k:Int)/\FrW (w.alloc (.cells #[.int .i64 2,.int .i64 x.n,.bool x.is,.slice va x.b.length vc,.string S] 63)) wr v (l.take k).flatten) (fun _ i _=>j-(intOf i).toNat)
  case atStart=>exact⟨0,Nat.zero_le _,rfl,FA.out⟩
  case round =>
   obtain⟨k,hk,rfl,hF⟩:=hrel;have hjs:=HJs.out;have HF:=hid hF;by_cases hkj:k<j
   ·obtain⟨rfl,y,hy,hyb,hy0⟩:=HI3.out wr hF.grown k hkj;have HYb:=hid hyb;have HY0:=hid hy0;have HTk2:=hid (HTk.out k hkj);have HP2:=hid (HPl.out (k+1) (by omega));clear hF hyb hy0;go_wp2_with (at_builtin;refine zAP (by rfl) (.tmp 137) (.tmp 138) 33 (by rfl) (w.alloc (.cells #[.int .i64 2,.int .i64 x.n,.bool x.is,.slice va x.b.length vc,.string S] 63)).heap.size 5 (.int .u8 0) 1 underlying33 (by kernel_rfl) rfl (by decide) _ _ _ (by rfl) HF.out.own _ _ (by rfl) HYb.out HY0.out (by have h1:=HP2.out;rw[HTk2.out,List.length_append]at h1;omega) HF.out.le ?_;intro v4 w4 ho4 hg4;have F4:=hid (HF.out.step (l':=(l.take (k+1)).flatten) ho4 hg4 (by rw[HTk2.out];exact(zAn _ _).symm));clear ho4 hg4)
    go_roundw
    case rel=>exact⟨k+1,by omega,by go_num,F4.out⟩
    case measure=>simp[intOf];omega
   ·obtain rfl:k=j:=by omega
    rw[HTe.out]at HF;have gr:=zAb HG5.out HF.out.grown;have GR:=hid gr;have t6:=HTc.out _ gr;have r6:=HRc.out _ gr;have c6:=HBc.out _ gr;have f6:=HBf.out _ gr;clear hF;have HC4:=hid (HCl.out _ gr);have HLt:=hid HE5.out.lt;have HO6:=hid (zAL (b:=b) (i:=0) (u:=.slice (some ⟨tsb,tso,none⟩) R tc) HF.out.own (zJG HF.out.own (Nat.lt_of_lt_of_le hbl HG.out.size)));clear gr;have HPut:=hid ((zDm HC4.out.2 HE0.out HSm.out t ht _ l.flatten (Bytes.own HO6.out HLt.out) (Whole0.own HO6.out)).mono (fun e w6 ⟨h1,h2,h3⟩=>(⟨h1,RefW.join HX.out.base HX.out.own ((Upto.of_grown F GR.out).trans HC4.out.1 (fun _ _ h=>h)) ⟨h2,h3⟩⟩:e=Ending.returned (.tuple #[])/\_)));go_wp2_with (go_at_call 57;refine HPut.out.mono ?_;rintro e w6 ⟨rfl,k6⟩;have K6:=hid k6;clear k6)
    go_returns
    exact⟨rfl,K6.out⟩
end Go.Proofs.YtijkaknggdaajaaGreatDoor
