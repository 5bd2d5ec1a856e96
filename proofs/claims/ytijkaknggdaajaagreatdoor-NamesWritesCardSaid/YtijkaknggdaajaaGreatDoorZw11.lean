import Derived.Test.YtijkaknggdaajaaGreatDoorZw10
import Derived.OwnWalkIn
import Derived.LoopNIn
import Derived.LoopIn
import Derived.Shelf.RegionOpen
set_option linter.unusedVariables false
set_option linter.unusedSimpArgs false
set_option maxRecDepth 100000
set_option maxHeartbeats 1000000
namespace Go.Proofs.YtijkaknggdaajaaGreatDoor
open Go.Proofs.Tryz
open Lib (hid)
open Go.RowKit
attribute [local go_sem] Oper.semAt_some
def lenC (w:World) (b:Nat):Nat:=match w.cell? ⟨b,0,none⟩with|some (Value.string t)=>t.size|_=>0
theorem zJd {w:World} {b:Nat} {t:TypeId} {s:ByteArray} (h:Boxed w b t (.string s)):lenC w b=s.size:=by unfold lenC;rw[h.cell]
theorem zEO (s:ByteArray) (bs bp bv:Nat) (w:World) (h1:bs≠bp) (h2:bs≠bv) (hlt:bs<w.heap.size)
  (hbs:Boxed w bs 9 (.string s)) (hbp:Boxed w bp 9 (.string ⟨#[46]⟩)) (hbv:Boxed w bv 3 (.int .i64 0)) (hs:s.size<=1099511620000)
  (hIx:∀ (t:ByteArray) (W:World),Calls prog 211 #[.string t,.string ⟨#[46]⟩] W fun e w'=>e=.returned (.int .i64 (Lib.indexByte t.data.toList 46))/\w'=W) :
  SeqP prog 209 #[.pointer (some ⟨bp,0,none⟩),.pointer (some ⟨bs,0,none⟩),.pointer (some ⟨bv,0,none⟩)] (fun p:List Nat=>#[.string (strOf p)]) (fun r=>r=bs) (fun r=>r=bs∨r=bp∨r=bv) 0 (Od.split (strL s)) w:=by
 intro l J Jx W hC hJ hJx hY h0;have HY:=hid hY;have HJ:=hid hJ;have HIx:=hid hIx;obtain⟨SP,hSP⟩:∃ SP,SP=Od.split (strL s):=⟨_,rfl⟩
 rw[<-hSP]at HY ⊢;have HSP:=hid hSP;have B1:Boxed W bs 9 (.string s):=(hC.same bs (.inl rfl)).trans hbs;have B2:Boxed W bp 9 (.string ⟨#[46]⟩):=(hC.same bp (.inr (.inl rfl))).trans hbp;have B3:Boxed W bv 3 (.int .i64 0):=(hC.same bv (.inr (.inr rfl))).trans hbv;have c2:=B2.cell;have H1:=hid B1;have H2:=hid B2;have H3:=hid B3;have H0:=hid h0;clear hY hJ hJx hC hbs hbp hbv hSP hIx B1 B2 B3 h0;refine(callsIn_wide (n:=5)).1 (callsIn_of_wp func209 rfl trivial ?_ rfl);simp only[ntmps209,List.size_toArray,List.length_cons,List.length_nil,Nat.reduceAdd,Nat.reduceSub,Array.replicate_succ,Array.replicate_zero,List.push_toArray,List.append_toArray,List.nil_append,List.cons_append]
 gi_wp2
 gi_loopw [7] (fun _ wr=>∃ (pre:List (List Nat)) (t:ByteArray),Boxed wr bs 9 (.string t)/\Boxed wr bp 9 (.string ⟨#[46]⟩)/\Boxed wr bv 3 (.int .i64 0)/\W.heap.size<=wr.heap.size/\t.size<=s.size/\SP=pre++Od.split (strL t)/\J pre wr) (fun _ wr=>lenC wr bs)
 case atStart=>exact⟨[],s,H1.out,H2.out,H3.out,Nat.le_refl _,Nat.le_refl _,by rw[HSP.out];rfl,H0.out⟩
 case round =>
  obtain⟨pre,t,b1,b2,b3,hwr,hts,hsp,hj⟩:=hrel;have M0:=hid (zJd b1);have G1:=hid b1;have G2:=hid b2;have G3:=hid b3;have c1:=b1.cell;have d1:=b1.frozen;have d2:=b2.cell;have d3:=b3.cell;have GJ:=hid hj;clear b1 b2 b3 hj;rcases zFL t with⟨hi,hsp1⟩|⟨k,hi,hk,hex,hsp1⟩
  ·have HI:=hid (HIx.out t wr);have HY1:=HY.out pre (strL t) wr (by rw[hsp,hsp1];exact List.prefix_refl _) GJ.out hwr;rw[zCJ]at HY1;obtain⟨fn,tmps,assign,body,hy,hR⟩:=HY1;have HR:=hid hR;have HS:Hid (SP=pre++[strL t]):=hid (by rw[hsp,hsp1]);rw[hi]at HI;clear hR hsp hsp1 hi
   gi_wp2_with (refine⟨trivial,?_⟩;gi_at_call 211;refine(callsIn_wide.2 HI.out).mono ?_;rintro e w' ⟨rfl,rfl⟩)
   refine(HR.out _).mono ?_;rintro e W3 (⟨rfl,hJ3,hk3⟩|⟨rfl,hJx3,_⟩)
   ·have K3:=hid hJ3;clear hJ3 hk3
    gi_wp2
    go_end0
    exact⟨⟨_,rfl⟩,.inl (by rw[HS.out];exact K3.out)⟩
   ·have K3:=hid hJx3;clear hJx3
    gi_wp2
    go_end0
    exact⟨⟨_,rfl⟩,.inr ⟨_,by rw[HS.out];exact List.prefix_refl _,K3.out⟩⟩
  ·have HI:=hid (HIx.out t wr);have HY1:=HY.out pre ((strL t).take k) wr ⟨Od.split (strL (t.extract (k+1) t.size)),by rw[hsp,hsp1];simp⟩ GJ.out hwr;obtain⟨fn,tmps,assign,body,hy,hR⟩:=HY1;have HR:=hid hR;have HS:Hid (SP=(pre++[(strL t).take k])++Od.split (strL (t.extract (k+1) t.size))):=hid (by rw[hsp,hsp1];simp);rw[hi]at HI;rw[<-hex]at hy;clear hR hsp hsp1 hi hex
   gi_wp2_with (refine⟨trivial,?_⟩;gi_at_call 211;refine(callsIn_wide.2 HI.out).mono ?_;rintro e w' ⟨rfl,rfl⟩)
   refine(HR.out _).mono ?_;rintro e W3 (⟨rfl,hJ3,hk3⟩|⟨rfl,hJx3,_⟩)
   ·have E1:=hid (show Boxed W3 bs 9 (.string t)from(hk3.same bs (.inl (.inl rfl))).trans G1.out);have E2:=hid (show Boxed W3 bp 9 (.string ⟨#[46]⟩)from(hk3.same bp (.inl (.inr (.inl rfl)))).trans G2.out);have E3:=hid (show Boxed W3 bv 3 (.int .i64 0)from(hk3.same bv (.inl (.inr (.inr rfl)))).trans G3.out);have x1:=E1.out.cell;have x2:=E1.out.frozen;have x3:=E2.out.cell;have HSz:=hid (Nat.le_trans hwr hk3.size);have HTs:=hid hts;have KJ:=hid (HJ.out _ _ _ (some bs) hJ3 (grownBy_setCell' W3 bs (.string (t.extract (k+1) t.size))) (fun r e=>by cases e;exact .inl rfl));have q1:wrap64 ((k:Int)+1)=(k:Int)+1:=by unfold wrap64;omega
    have q2:((k:Int)+1).toNat=k+1:=by omega
    clear hJ3 hk3 hwr hts
    gi_wp2
    go_roundw
    case rel=>exact⟨_,t.extract (k+1) t.size,E1.out.set _,E2.out.other (fun e=>h1 e.symm) _,E3.out.other (fun e=>h2 e.symm) _,by have:=HSz.out;simpa [World.setCell]using this,by have:=HTs.out;rw[ByteArray.size_extract];omega,HS.out,KJ.out⟩
    case measure=>rw[M0.out,zJd (E1.out.set _),ByteArray.size_extract,Nat.min_self];omega
   ·have K3:=hid hJx3;clear hJx3
    gi_wp2
    refine bodyPost_ret (results_none rfl _ _ _) rfl ?_;exact⟨⟨_,rfl⟩,.inr ⟨_,⟨_,HS.out.symm⟩,K3.out⟩⟩
theorem zLK (fn:Fn) (first cap:Array Value) (w:World):(Instr.makeFunc fn first cap).run prog w=.ok (.func fn first cap) w:=rfl
theorem zEN (s:ByteArray) (w:World) :
  Calls prog 198 #[.string s,.string ⟨#[46]⟩,.int .i64 0] w fun e w'=>e=.returned (.func (.func 209) #[] #[.pointer (some ⟨w.heap.size+1,0,none⟩),.pointer (some ⟨w.heap.size,0,none⟩),.pointer (some ⟨w.heap.size+2,0,none⟩)]) /\
   w'=((w.alloc (.cells #[.string s] 9)).alloc (.cells #[.string ⟨#[46]⟩] 9)).alloc (.cells #[.int .i64 0] 3):=by
 have hmf:=zLK;go_enter func198,ntmps198
 go_wp2
 go_ret
 exact⟨rfl,rfl⟩
theorem zFE (s:ByteArray) (w:World) :
  Calls prog 181 #[.string s,.string ⟨#[46]⟩] w fun e w'=>e=.returned (.func (.func 209) #[] #[.pointer (some ⟨w.heap.size+1,0,none⟩),.pointer (some ⟨w.heap.size,0,none⟩),.pointer (some ⟨w.heap.size+2,0,none⟩)]) /\
   w'=((w.alloc (.cells #[.string s] 9)).alloc (.cells #[.string ⟨#[46]⟩] 9)).alloc (.cells #[.int .i64 0] 3):=by
 have HS:=hid (zEN s w);go_enter func181,ntmps181
 go_wp2_with (go_at_call 198;refine HS.out.mono ?_;rintro e w1 ⟨rfl,rfl⟩)
 go_ret
 exact⟨rfl,rfl⟩
attribute [local go_sem] Oper.semAt_some
def encN (A:Nat->Addr):Except Nat Int->Array Value
 |.ok n=>#[.int .i64 n,.nilIface]
 |.error k=>#[.int .i64 0,errV A k]
theorem zG1 (A:Nat->Addr) (x:Except Nat Int):∃ a b,encN A x=#[a,b]:=by cases x <;> exact⟨_,_,rfl⟩
theorem zCK:∀ (l acc:List Nat),∀ p∈Od.splitA acc l,∀ c∈p,c∈acc∨c∈l
 |[],acc,p,hp,c,hc=>by
  simp only[Od.splitA,List.mem_singleton]at hp;subst hp;exact .inl hc
 |b :: r,acc,p,hp,c,hc=>by
  rw[Od.splitA]at hp;split at hp
  ·rcases List.mem_cons.1 hp with h|h
   ·subst h;exact .inl hc
   ·rcases zCK r [] p h c hc with h|h
    ·cases h
    ·exact .inr (List.mem_cons_of_mem _ h)
  ·rcases zCK r _ p hp c hc with h|h
   ·rcases List.mem_append.1 h with h|h
    ·exact .inl h
    ·rw[List.mem_singleton]at h;subst h;exact .inr (List.mem_cons_self ..)
   ·exact .inr (List.mem_cons_of_mem _ h)
theorem zJX {s:ByteArray} {p:List Nat} (h:p∈Od.split (strL s)):∀ c∈p,c<256:=fun c hc=>by
 rcases zCK _ _ p h c hc with h|h
 ·cases h
 ·exact strL_lt s c h
theorem zKx (args:Array Value) (w:World):(callFunc 209 args).run prog w=.ok (.enter 209 args) w:=by
 simp[go_sem]
theorem zEm (A:Nat->Addr) (s:ByteArray) (hs:s.size<=1099511620000) (bt:Nat) (w:World) (hbt:Boxed w bt 9 (.string s))
  (hN:∀ (p:ByteArray) (W:World),w.grownBy W none->Calls prog 182 #[.string p] W fun e w'=>e=.returned (.tuple (encN A (Od.numOf (strL p))))/\W.grownBy w' none)
  (hIx:∀ (t:ByteArray) (W:World),Calls prog 211 #[.string t,.string ⟨#[46]⟩] W fun e w'=>e=.returned (.int .i64 (Lib.indexByte t.data.toList 46))/\w'=W) :
  SeqP prog 180 #[.pointer (some ⟨bt,0,none⟩)] (encN A) (fun _=>False) (fun r=>r<w.heap.size) 6 ((Od.split (strL s)).map Od.numOf) w:=by
 intro l J Jx W hC hJ hJx hY h0;have HW:=hid (hC.below (Nat.le_refl _));have B1:Boxed W bt 9 (.string s):=(hC.same bt hbt.lt).trans hbt;have c1:=(B1.alloc (.cells #[.func (.yield l) #[] #[]] 220)).cell;refine(callsIn_wide (n:=5)).1 (callsIn_of_wp_marks func180 rfl trivial ?_ rfl);simp only[ntmps180,List.size_toArray,List.length_cons,List.length_nil,Nat.reduceAdd,Nat.reduceSub,Array.replicate_succ,Array.replicate_zero,List.push_toArray,List.append_toArray,List.nil_append,List.cons_append];have HSS:=hid (fun W=>zFE s W)
 gi_wp2_with (refine⟨trivial,?_⟩;gi_at_call 181;refine(callsIn_wide.2 (HSS.out _)).mono ?_;rintro e w' ⟨rfl,rfl⟩)
 obtain⟨X,hX⟩:∃ X,X=(((((W.alloc (.cells #[.func (.yield l) #[] #[]] 220)).alloc (.cells #[.string s] 9)).alloc (.cells #[.string ⟨#[46]⟩] 9)).alloc (.cells #[.int .i64 0] 3))):=⟨_,rfl⟩
 have hs4:X.heap.size=W.heap.size+4:=by rw[hX];simp
 have hg4:W.grownBy X none:=by rw[hX];exact zAc (zAc (zAc (zAc (zAa _ _) _) _) _) _
 have bY:Boxed X W.heap.size 220 (.func (.yield l) #[] #[]):=by rw[hX];exact(((Boxed.new W _ _).alloc _).alloc _).alloc _
 have b1:Boxed X (W.heap.size+1) 9 (.string s):=by
  rw[hX];have:=((Boxed.new (W.alloc (.cells #[.func (.yield l) #[] #[]] 220)) 9 (.string s)).alloc (.cells #[.string ⟨#[46]⟩] 9)).alloc (.cells #[.int .i64 0] 3);simpa using this
 have b2:Boxed X (W.heap.size+1+1) 9 (.string ⟨#[46]⟩):=by
  rw[hX];have:=(Boxed.new ((W.alloc (.cells #[.func (.yield l) #[] #[]] 220)).alloc (.cells #[.string s] 9)) 9 (.string ⟨#[46]⟩)).alloc (.cells #[.int .i64 0] 3);simpa using this
 have b3:Boxed X (W.heap.size+1+2) 3 (.int .i64 0):=by
  rw[hX];have:=Boxed.new (((W.alloc (.cells #[.func (.yield l) #[] #[]] 220)).alloc (.cells #[.string s] 9)).alloc (.cells #[.string ⟨#[46]⟩] 9)) 3 (.int .i64 0);simpa using this
 rw[<-hX];clear hX c1;have hJX:J [] X:=hJ _ _ _ none h0 hg4 (fun r e=>by cases e);refine zCm (gf:=209) (lb:=#[.pointer (some ⟨W.heap.size+1+1,0,none⟩),.pointer (some ⟨W.heap.size+1,0,none⟩),.pointer (some ⟨W.heap.size+1+2,0,none⟩)]) (by rfl) zKx
  (zEO s (W.heap.size+1) (W.heap.size+1+1) (W.heap.size+1+2) X (by omega) (by omega) (by omega) b1 b2 b3 hs hIx) (fun _=>rfl) (fun r h=>by subst h;omega) (fun r h=>by rcases h with h|h|h <;> subst h <;> omega)
  (fun pre wr=>J (pre.map Od.numOf) wr/\KeepsP (fun r=>r<w.heap.size) w wr/\Boxed wr W.heap.size 220 (.func (.yield l) #[] #[]))
  (fun c pre wr=>c=.ret/\Jx (pre.map Od.numOf) wr) ?_ ?_ ⟨hJX,hC.trans (.grown hg4 (fun r hr=>⟨Nat.lt_of_lt_of_le hr hC.size,by simp⟩)),bY⟩
  (fun p=>{ tmps:=#[.func (.yield l) #[] #[],.pointer (some ⟨bt,0,none⟩),.pointer (some ⟨W.heap.size,0,none⟩),.string (strOf p),.string s,.func (.func 209) #[] #[.pointer (some ⟨W.heap.size+1+1,0,none⟩),.pointer (some ⟨W.heap.size+1,0,none⟩),.pointer (some ⟨W.heap.size+1+2,0,none⟩)],.string (strOf p),undef,undef,undef,undef,undef,undef,undef],defers:=[] }) ?assign ?body ?done ?stop
 ·rintro q A' B' row ⟨h1,h2,h3⟩ hg hr;have hr':∀ r,row=some r->W.heap.size+1<=r/\r<W.heap.size+6:=fun r e=>by
   rcases hr r e with h|h
   ·subst h;omega
   ·omega
  refine⟨hJ _ _ _ row h1 hg (fun r e=>.inr (by have:=hr' r e;omega)),h2.trans (.grown hg (fun k hk=>⟨Nat.lt_of_lt_of_le hk h2.size,fun e=>by have:=hr' k e.symm;have:=hC.size;omega⟩)),h3.kept hg (fun e=>by have:=hr' _ e.symm;omega)⟩
 ·rintro c q A' B' row ⟨h1,h2⟩ hg hr;refine⟨h1,hJx _ _ _ row h2 hg (fun r e=>.inr ?_)⟩;rcases hr r e with h|h
  ·subst h;omega
  ·omega
 case assign =>
  intro l2 x wr K hK
  gi_wp2
  exact hK
 case body =>
  rintro l2 pre p wr hsz hpre ⟨hj,hgw,hby⟩;obtain⟨a,b,hab⟩:=zG1 A (Od.numOf p);have hstr:strL (strOf p)=p:=zAw (zJX (hpre.subset (by simp)));have HN:Hid (∀ W',wr.grownBy W' none->Calls prog 182 #[.string (strOf p)] W' fun e w'=>e=.returned (.tuple #[a,b])/\W'.grownBy w' none):=hid (fun W' hW'=>by
   have:=hN (strOf p) W' (zAb (hgw.below (Nat.le_refl _)) hW');rw[hstr,hab]at this;exact this)
  have HY:Hid (∀ W',wr.grownBy W' none->YieldP prog l #[a,b] W' fun e W2=>∃ q:Bool,e=.returned (.bool q) /\
    KeepsP (zBC (fun r=>r<w.heap.size) W.heap.size 6) W' W2/\(q=true->J ((pre++[p]).map Od.numOf) W2)/\(q=false->Jx ((pre++[p]).map Od.numOf) W2)):=hid (fun W' hW'=>by
   have:=hY (pre.map Od.numOf) (Od.numOf p) W' (by simpa using hpre.map Od.numOf) (hJ _ _ _ none hj hW' (fun r e=>by cases e)) (by have:=hW'.size;omega);rw[hab]at this;refine this.mono ?_;rintro e w2 (⟨rfl,h1,h2⟩|⟨rfl,h1,h2⟩)
   ·exact⟨true,rfl,h2,(fun _=>by simpa using h1),fun h=>by cases h⟩
   ·exact⟨false,rfl,h2,(fun h=>by cases h),fun _=>by simpa using h1⟩)
  have cY:=hby.cell;have hmx:prog.follows .mixedOrders=true:=by kernel_rfl
  have GY:=hid hby;have GJ:=hid hj;have GW:=hid hgw;have GP:=hid hpre;clear hj hgw hby hpre hN hY hJ hJx hC hIx h0 hab hstr hJX b1 b2 b3 bY hg4 B1
  gi_wp2
  gi_region_with_o (first
   |(refine⟨trivial,?_⟩;gi_at_call 182;refine(CallsIn.inRound l2 (callsIn_wide.2 (HN.out _ (zAd (zAa _ _) 1)))).mono ?_;rintro e w1 ⟨rfl,hg1⟩;have HG1:=hid (zDM (n:=1) hg1);have cY1:=(GY.out.kept HG1.out (by simp)).cell;obtain⟨fn,tmps,assign,body,hy,hR⟩:=HY.out w1 HG1.out;have HR:=hid hR;clear hg1 hR)
   |(refine RoundIn.mono (HR.out _) ?_;rintro e w2 ⟨q,rfl,hq⟩;have HQ:=hid hq;clear hq))
  all_goals
   obtain⟨k1,k2,k3⟩:=HQ.out;have HK:Hid (KeepsP (zBC (fun r=>r=W.heap.size+1∨r=W.heap.size+1+1∨r=W.heap.size+1+2) (W.heap.size+4) 2) wr w2):=hid ((KeepsP.grown HG1.out (fun r h=>⟨by rcases h with(h|h|h)|h <;> omega,by simp⟩)).trans (k1.mono (fun r h=>.inr (by rcases h with(h|h|h)|h <;> omega))));have HKs:Hid (KeepsP (fun r=>r<w.heap.size) w w2/\Boxed w2 W.heap.size 220 (.func (.yield l) #[] #[])):=Lib.hid
    ⟨(GW.out.trans (.grown HG1.out (fun r hr=>⟨Nat.lt_of_lt_of_le hr GW.out.size,by simp⟩))).trans (k1.mono (fun r hr=>.inl hr)),(k1.same _ (.inr (by omega))).trans (GY.out.kept HG1.out (by simp))⟩
   have K2:=hid k2;have K3:=hid k3;clear k1 k2 k3;cases q
   ·gi_wp2
    exact⟨HK.out,rfl,K3.out trivial⟩
   ·gi_wp2
    exact⟨HK.out,K2.out trivial,HKs.out.1,HKs.out.2⟩
 case done =>
  rintro wd ⟨hj,_,_⟩ hK;have HJ2:=hid (hJ _ _ _ (some X.heap.size) hj (zA2 wd X.heap.size (.deferred none)) (fun r e=>by cases e;exact .inr (by omega)));clear hj hJ hJx
  gi_wp2
  refine⟨by simp,.inl ⟨_,_,rfl,run_takeDeferred hK,?_⟩⟩;refine⟨_,results_none rfl _ _ _,⟨_,rfl⟩,.inl HJ2.out⟩
 case stop =>
  rintro c pre wd hpre ⟨rfl,hj⟩ hK;have HJ2:=hid (hJx _ _ _ (some X.heap.size) hj (zA2 wd X.heap.size (.deferred none)) (fun r e=>by cases e;exact .inr (by omega)));clear hj hJ hJx
  gi_wp2
  refine⟨by simp,.inl ⟨_,_,rfl,run_takeDeferred hK,?_⟩⟩;exact⟨_,results_none rfl _ _ _,⟨_,rfl⟩,.inr ⟨_,hpre.map Od.numOf,HJ2.out⟩⟩
theorem zHC (s:ByteArray) (w:World) :
  Calls prog 162 #[.string s] w fun e w'=>e=.returned (.func (.func 180) #[] #[.pointer (some ⟨w.heap.size,0,none⟩)])/\w'=w.alloc (.cells #[.string s] 9):=by
 have hmf:=zLK;go_enter func162,ntmps162
 go_wp2
 go_ret
 exact⟨rfl,rfl⟩
attribute [local go_sem] Oper.semAt_some
theorem zJD {W w1:World} {n0 B:Nat} {t e:TypeId} {v v':Value} {k m:Nat} {xs ys:List Value} {tmp:Obj}
  (hv:Boxed W B t v) (hte:t≠e) (hrow:W.ownsRow n0 e 1 v k xs) (_:B<n0) (hown':w1.ownsRow n0 e 1 v' m ys) (hgrow:(W.alloc tmp).grownBy w1 v.ownBlock) :
  Boxed w1 B t v/\Boxed (w1.setCell ⟨B,0,none⟩ v') B t v'/\(w1.setCell ⟨B,0,none⟩ v').ownsRow n0 e 1 v' m ys/\∀ p:Nat->Prop,(∀ r,p r->r<n0/\r≠B/\r<W.heap.size)->KeepsP p W (w1.setCell ⟨B,0,none⟩ v'):=by
 have hv1:Boxed w1 B t v:=(hv.alloc tmp).kept hgrow (hv.not_row hte hrow);refine⟨hv1,hv1.set v',hown'.kept (grownBy_setCell' w1 B v') (.inr (hv1.not_row hte hown').symm),fun p hp=>?_⟩;refine((KeepsP.grown (World.grownBy_alloc W tmp none) (fun r hr=>⟨(hp r hr).2.2,by simp⟩)).trans (.grown hgrow (fun r hr=>⟨by have:=(hp r hr).2.2;simp;omega,fun e'=>?_⟩))).trans (.grown (grownBy_setCell' w1 B v') (fun r hr=>⟨?_,fun e'=>(hp r hr).2.1 (by cases e';rfl)⟩))
 ·have:=(hrow.lt r e'.symm).1;have:=(hp r hr).1;omega
 ·have:=hgrow.size;have h2:=(hp r hr).2.2;simp at this;omega
def GaI (w:World) (n0:Nat) (pre:List (Except Nat Int)) (W:World):Prop :=
 ∃ (v:Value) (l:List Int),pre=l.map .ok/\Boxed W (w.heap.size+1+1) 51 v/\W.ownsRow n0 3 1 v (l.take 17).length (cellsI (l.take 17))/\Boxed W w.heap.size 51 (.slice none 0 0)/\Boxed W (w.heap.size+1) 28 .nilIface/\w.grownBy W none
def GaX (A:Nat->Addr) (w:World) (pre:List (Except Nat Int)) (W:World):Prop :=
 ∃ (l:List Int) (k:Nat),pre=l.map .ok++[.error k]/\Boxed W w.heap.size 51 (.slice none 0 0)/\Boxed W (w.heap.size+1) 28 (errV A k)/\w.grownBy W none
theorem zCx {w A B:World} {row:Option Nat} (h:w.grownBy A none) (hg:A.grownBy B row) (hr:∀ r,row=some r->w.heap.size<=r):w.grownBy B none :=
 ⟨hg.os.trans h.os,hg.tape.trans h.tape,hg.output.trans h.output,Nat.le_trans h.size hg.size,fun k hk _=>(hg.block k (Nat.lt_of_lt_of_le hk h.size) (fun e=>by have:=hr k e.symm;omega)).trans (h.block k hk (by simp))⟩
theorem zGm {w A B:World} (h:w.grownBy A none) (k:KeepsP (fun r=>r<w.heap.size) A B):w.grownBy B none :=
 ⟨k.os.trans h.os,k.tape.trans h.tape,k.output.trans h.output,Nat.le_trans h.size k.size,fun r hr _=>(k.same r hr).trans (h.block r hr (by simp))⟩
theorem zJn (w:World) (n0:Nat) (p:Nat->Prop) (hp:∀ r,p r->w.heap.size+3<=r/\r<n0):zGy p (GaI w n0):=by
 rintro s A B row ⟨v,l,h1,h2,h3,h4,h5,h6⟩ hg hr;have hne:∀ k,k<w.heap.size+3->some k≠row:=fun k hk e=>by have:=(hp k (hr k e.symm)).1;omega
 refine⟨v,l,h1,h2.kept hg (hne _ (by omega)),h3.kept hg (Classical.or_iff_not_imp_left.2 fun _ e=>?_),h4.kept hg (hne _ (by omega)),h5.kept hg (hne _ (by omega)),zCx h6 hg (fun r e=>by have:=(hp r (hr r e)).1;omega)⟩;cases hro:row with
 |none=>rw[hro]at e;contradiction
 |some r =>
  have:=(h3.lt r (e.trans hro)).1;have:=(hp r (hr r hro)).2;omega
theorem zJm (A:Nat->Addr) (w:World) (p:Nat->Prop) (hp:∀ r,p r->w.heap.size+3<=r):zGy p (GaX A w):=by
 rintro s W1 W2 row ⟨l,k,h1,h4,h5,h6⟩ hg hr;have hne:∀ k,k<w.heap.size+3->some k≠row:=fun k hk e=>by have:=hp k (hr k e.symm);omega
 exact⟨l,k,h1,h4.kept hg (hne _ (by omega)),h5.kept hg (hne _ (by omega)),zCx h6 hg (fun r e=>by have:=hp r (hr r e);omega)⟩
def encV:Except Nat Int->Value
 |.ok n=>.int .i64 n
 |.error _=>.int .i64 0
def encE (A:Nat->Addr):Except Nat Int->Value
 |.ok _=>.nilIface
 |.error k=>errV A k
theorem encN_eq (A:Nat->Addr) (x:Except Nat Int):encN A x=#[encV x,encE A x]:=by cases x <;> rfl
theorem zLP:(prog.info? 3).map (fun i=>(i.zero,i.size,i.bytes))=some (some (.int .i64 0),1,8):=by kernel_rfl
def zK2 (A:Nat->Addr) (w:World) (src:List (Except Nat Int)) (e:Ending) (w':World):Prop :=
 w.grownBy w' none/\match Od.gat src with
  |.ok l=>∃ v,e=.returned (.tuple #[v,.nilIface])/\Ints w' v (l.take 17)/\Whole0 v
  |.error q=>e=.returned (.tuple #[.slice none 0 0,errV A q])
theorem zDT (tmps:Array Value) (g1 g2:Nat) (v1 v2:Value) (w:World) (h1:tmps[2]?.getD undef=.pointer (some ⟨g1,0,none⟩)) (h2:tmps[3]?.getD undef=.pointer (some ⟨g2,0,none⟩)) (c1:w.cell? ⟨g1,0,none⟩=some v1) (c2:w.cell? ⟨g2,0,none⟩=some v2) :
  (results Tryz.f154 tmps).run prog w=.ok (.tuple #[v1,v2]) w:=by
 have h:Tryz.f154.results=#[.cell 2 51,.cell 3 28]:=rfl;simp only[results,h];simp[Sem.run_bind,Result.andThen,h1,h2,asAddr];go_simp
theorem zD3 (A:Nat->Addr) (gf:Nat) (lb:Array Value) (k:Nat) (src:List (Except Nat Int)) (w:World) (eg:∀ args w,(callFunc gf args).run prog w=.ok (.enter gf args) w)
  (hs:SeqP prog gf lb (encN A) (fun _=>False) (fun r=>r<w.heap.size) k src w) :
  Calls prog 154 #[.func (.func gf) #[] lb] w (zK2 A w src):=by
 refine(callsIn_wide (n:=5)).1 (callsIn_of_wp_marks func154 rfl trivial ?_ rfl);simp only[ntmps154,List.size_toArray,List.length_cons,List.length_nil,Nat.reduceAdd,Nat.reduceSub,Array.replicate_succ,Array.replicate_zero,List.push_toArray,List.append_toArray,List.nil_append,List.cons_append];have HS:=hid hs;clear hs
 gi_wp2
 obtain⟨X,hX⟩:∃ X,X=(((w.alloc (.cells #[.slice none 0 0] 51)).alloc (.cells #[.nilIface] 28)).alloc (.cells #[.slice none 0 0] 51)):=⟨_,rfl⟩
 have hs3:X.heap.size=w.heap.size+3:=by rw[hX];simp
 have hg3:w.grownBy X none:=by rw[hX];exact zAc (zAc (zAc (zAa _ _) _) _) _
 have b1:Boxed X w.heap.size 51 (.slice none 0 0):=by rw[hX];exact((Boxed.new w _ _).alloc _).alloc _
 have b2:Boxed X (w.heap.size+1) 28 .nilIface:=by
  rw[hX];have:=(Boxed.new (w.alloc (.cells #[.slice none 0 0] 51)) 28 .nilIface).alloc (.cells #[.slice none 0 0] 51);simpa using this
 have b3:Boxed X (w.heap.size+1+1) 51 (.slice none 0 0):=by
  rw[hX];have:=Boxed.new ((w.alloc (.cells #[.slice none 0 0] 51)).alloc (.cells #[.nilIface] 28)) 51 (.slice none 0 0);simpa using this
 rw[<-hX];clear hX;obtain⟨i0,hi,hz0,hz1,hz2⟩:=info_parts zLP;refine zCm (gf:=gf) (lb:=lb) (by rfl) eg (HS.out.later (KeepsP.grown hg3 (fun r hr=>⟨hr,by simp⟩))) (fun x=>by rw[encN_eq];rfl) (fun r h=>h.elim) (fun r h=>by rw[hs3];omega)
  (GaI w (w.heap.size+3+(k+2))) (fun c pre W=>c=.ret/\GaX A w pre W)
  (zJn w _ _ (fun r h=>by rcases h with h|h;exact h.elim;omega)) (fun c s B C row ⟨h1,h2⟩ hg hr=>⟨h1,zJm A w _ (fun r h=>by rcases h with h|h;exact h.elim;omega) s B C row h2 hg hr⟩)
  ⟨_,[],rfl,b3,World.ownsRow_nil _ _ _ _,b1,b2,hg3⟩
  (fun x=>{ tmps:=#[.func (.func gf) #[] lb,undef,.pointer (some ⟨w.heap.size,0,none⟩),.pointer (some ⟨w.heap.size+1,0,none⟩),.pointer (some ⟨w.heap.size+1+1,0,none⟩),encV x,encE A x,.func (.func gf) #[] lb,encV x,encE A x,undef,undef,undef,undef,undef,undef,undef,undef,undef,undef,undef],defers:=[] }) ?assign ?body ?done ?stop
 case assign =>
  intro l x W K hK;rw[encN_eq]
  gi_wp2
  exact hK
 case body =>
  rintro l pre x W hsz hpre ⟨v,t,h1,h2,h3,h4,h5,h6⟩;rw[hs3]at hsz;have H2:=hid h2;have H3:=hid h3;have H4:=hid h4;have H5:=hid h5;have H6:=hid h6;have HSz:=hid hsz;have H1:=hid h1;have c2:=h2.cell;clear b1 b2 b3 hg3 h1 h2 h3 h4 h5 h6 HS eg hpre;cases x with
  |error q =>
   have c4:=H4.out.cell;have f4:=H4.out.frozen;have c5:=H5.out.cell;have f5:=H5.out.frozen;have HX:Hid (GaX A w (pre++[.error q]) ((W.setCell ⟨w.heap.size,0,none⟩ (.slice none 0 0)).setCell ⟨w.heap.size+1,0,none⟩ (errV A q))):=Lib.hid
    ⟨t,q,by rw[H1.out],(H4.out.set _).other (by omega) _,(H5.out.other (by omega) _).set _,zAq (zAq H6.out (.inl (Nat.le_refl _)) _) (.inl (by show w.heap.size<=w.heap.size+1;omega)) _⟩
   have HK:Hid (KeepsP (zBC (fun r=>r<w.heap.size) X.heap.size (k+2)) W ((W.setCell ⟨w.heap.size,0,none⟩ (.slice none 0 0)).setCell ⟨w.heap.size+1,0,none⟩ (errV A q))):=hid (by
    have hsz:=HSz.out;refine(KeepsP.grown (grownBy_setCell' W w.heap.size (.slice none 0 0)) (fun r h=>?_)).trans (.grown (grownBy_setCell' _ (w.heap.size+1) (errV A q)) (fun r h=>?_))
    ·exact⟨by rcases h with h|h <;> omega,fun e=>by cases e;rcases h with h|h <;> omega⟩
    ·refine⟨Nat.lt_of_lt_of_le (?_:r<W.heap.size) (grownBy_setCell' W w.heap.size (.slice none 0 0)).size,fun e=>by cases e;rcases h with h|h <;> omega⟩;rcases h with h|h <;> omega)
   simp only[encV,encE]
   gi_wp2
   exact⟨HK.out,rfl,HX.out⟩
  |ok n =>
   obtain⟨va,vg,vc,hv,hvc,hvm,_⟩:=zAl H3.out;subst hv;have HT1:Hid ((t.take 17).length<=16->(t++[n]).take 17=t.take 17++[n]):=hid (fun h=>by
    rw[List.length_take]at h;rw[List.take_of_length_le (by rw[List.length_append];simp;omega),List.take_of_length_le (by omega)])
   have HT2:Hid (¬(t.take 17).length<=16->(t++[n]).take 17=t.take 17):=hid (fun h=>by
    rw[List.length_take]at h;rw[List.take_append_of_le_length (by omega)])
   obtain⟨T,hT⟩:∃ T,T=t.take 17:=⟨_,rfl⟩
   have hT17:T.length<=17:=by rw[hT,List.length_take];omega
   rw[<-hT]at H2 H3 c2 HT1 HT2;have HT:=hid hT;clear hvc hvm hT;by_cases h16:T.length<=16
   ·have HTn:=hid (HT1.out h16);clear HT1 HT2;simp only[encV,encE]
    gi_wp2_with (gi_at_builtin;refine wpListIn_append_own _ rfl _ _ 51 rfl (w.heap.size+3+(k+2)) 3 i0 (.int .i64 0) 1 8 underlying51 hi hz0 hz1 hz2 rfl (by decide) _ T.length (cellsI T) rfl (H3.out.alloc _) ⟨W.heap.size,0,none⟩ 1 1 [.int .i64 n] rfl rfl (cell_one_new _ _ _) (by simp[Value.oneCell']) (by unfold maxLen;omega) (by omega) (by have:=HSz.out;simp;omega) ?_;intro v' w1 hown' hgrow _;obtain⟨g',cap',rfl⟩:=ownsRow_succ hown';obtain⟨hv1,hv2,hr2,hk2⟩:=zJD H2.out (by decide) H3.out (by omega) hown' hgrow;have hc1:=hv1.cell;have hf1:=hv1.frozen)
    have hsz:=HSz.out;have kb:=hk2 (fun r=>r<w.heap.size∨r=w.heap.size∨r=w.heap.size+1) (fun r h=>by omega);exact⟨hk2 _ (fun r h=>by rcases h with h|h <;> omega),_,t++[n],by rw[H1.out];simp,hv2,by rw[HTn.out,List.length_append,zBo];exact hr2,(kb.same _ (.inr (.inl rfl))).trans H4.out,(kb.same _ (.inr (.inr rfl))).trans H5.out,zGm H6.out (kb.mono (fun r h=>.inl h))⟩
   ·have HTn:=hid (HT2.out h16);clear HT1 HT2;simp only[encV,encE]
    gi_wp2
    exact⟨KeepsP.refl _ _,_,t++[n],by rw[H1.out];simp,H2.out,by rw[HTn.out];exact H3.out,H4.out,H5.out,H6.out⟩
 case done =>
  rintro wd ⟨v,t,h1,h2,h3,h4,h5,h6⟩ hK;obtain⟨va,vg,vc,hv,hvc,hvm,hva,_⟩:=zAl h3;subst hv;have c2:=h2.cell;have c4:=h4.cell;have f4:=h4.frozen;have c5:=h5.cell;have f5:=h5.frozen;have H4:=hid h4;have H5:=hid h5;have H3:=hid h3;have H6:=hid h6;have H1:=hid h1;have hK2:∀ u1 u2,((wd.setCell ⟨w.heap.size,0,none⟩ u1).setCell ⟨w.heap.size+1,0,none⟩ u2).heap[X.heap.size]?=some (.deferred (some [])):=fun u1 u2=>by
   rw[Below.heap_setCell _ _ _ _ (by show _≠w.heap.size+1;omega),Below.heap_setCell _ _ _ _ (by show _≠w.heap.size;omega)];exact hK
  obtain⟨T,hT⟩:∃ T,T=t.take 17:=⟨_,rfl⟩
  rw[<-hT]at H3 c2 hvc hva;have HT:=hid hT;have HVA:=hid hva;clear b1 b2 b3 hg3 h1 h2 h3 h4 h5 h6 HS eg hT hva
  gi_wp2
  refine⟨by simp,.inl ⟨_,_,rfl,run_takeDeferred (hK2 _ _),?_⟩⟩;have e1:Boxed (((wd.setCell ⟨w.heap.size,0,none⟩ (.slice va T.length vc)).setCell ⟨w.heap.size+1,0,none⟩ .nilIface).putObj X.heap.size (.deferred none)) w.heap.size 51 (.slice va T.length vc) :=
   ((H4.out.set _).other (by omega) _).kept (zA2 _ _ _) (fun e=>by have:=Option.some.inj e;omega)
  have e2:Boxed (((wd.setCell ⟨w.heap.size,0,none⟩ (.slice va T.length vc)).setCell ⟨w.heap.size+1,0,none⟩ .nilIface).putObj X.heap.size (.deferred none)) (w.heap.size+1) 28 .nilIface :=
   ((H5.out.other (by omega) _).set _).kept (zA2 _ _ _) (fun e=>by have:=Option.some.inj e;omega)
  have nb:∀ r,r<w.heap.size+3+(k+2)->(Value.slice va T.length vc).ownBlock≠some r:=fun r hr e=>by have:=(H3.out.lt r e).1;omega
  have e3:=((H3.out.kept (grownBy_setCell' wd w.heap.size (.slice va T.length vc)) (.inr (nb _ (by omega)))).kept (grownBy_setCell' _ (w.heap.size+1) .nilIface) (.inr (nb _ (by omega)))).kept (zA2 _ X.heap.size (.deferred none)) (.inr (nb _ (by omega)));refine⟨_,zDT _ w.heap.size (w.heap.size+1) _ _ _ (by rfl) (by rfl) e1.cell e2.cell,?_,?_⟩
  ·exact zCx (zAq (zAq H6.out (.inl (Nat.le_refl _)) _) (.inl (by show w.heap.size<=w.heap.size+1;omega)) _) (zA2 _ _ _) (fun r e=>by cases e;omega)
  ·rw[H1.out,Od.gat_ok];exact⟨_,rfl,by rw[<-HT.out];exact Ints.own e3,Whole0.own e3⟩
 case stop =>
  rintro c pre wd hpre ⟨rfl,t,q,h1,h4,h5,h6⟩ hK;have c4:=h4.cell;have c5:=h5.cell;have H4:=hid h4;have H5:=hid h5;have H6:=hid h6;have H1:=hid h1;clear b1 b2 b3 hg3 h1 h4 h5 h6 HS eg
  gi_wp2
  refine⟨by simp,.inl ⟨_,_,rfl,run_takeDeferred hK,?_⟩⟩;have e1:Boxed (wd.putObj X.heap.size (.deferred none)) w.heap.size 51 (.slice none 0 0):=H4.out.kept (zA2 _ _ _) (fun e=>by have:=Option.some.inj e;omega);have e2:Boxed (wd.putObj X.heap.size (.deferred none)) (w.heap.size+1) 28 (errV A q):=H5.out.kept (zA2 _ _ _) (fun e=>by have:=Option.some.inj e;omega);refine⟨_,zDT _ w.heap.size (w.heap.size+1) _ _ _ (by rfl) (by rfl) e1.cell e2.cell,?_,?_⟩
  ·exact zCx H6.out (zA2 _ _ _) (fun r e=>by cases e;omega)
  ·obtain⟨rest,hr⟩:=hpre;rw[<-hr,H1.out,List.append_assoc,List.singleton_append,Od.gat_err]
theorem retB {a b:Bool} (h:a=b):Ending.returned (.bool a)=.returned (.bool b):=by rw[h]
theorem zEu (x:Nat) (hx:x<256):IntKind.i8.wrap (x:Int)=if 127<x then(x:Int)-256 else x:=by
 simp only[IntKind.wrap,IntKind.bits,IntKind.signed];simp;split <;> omega
theorem zGe (x y:Nat) (r:List Nat) (hx:x<256) (hy:y<256):(IntKind.i8.wrap (x:Int)==IntKind.i8.wrap (y:Int)/128)=Wh.needless (x :: y :: r):=by
 rw[zEu x hx,zEu y hy,Wh.needless,Bool.eq_iff_iff];simp only[beq_iff_eq,Bool.or_eq_true,Bool.and_eq_true,decide_eq_true_eq];split <;> split <;> omega
theorem zFg (v:Value) (l:List Nat) (w:World) (hB:Bytes w v l) :
  Calls prog 177 #[v] w fun e w'=>e=.returned (.bool (Wh.needless l))/\w.grownBy w' none:=by
 obtain⟨hlt,a,sb,so,c,rfl,hc,ha,hcell⟩:=hB
 match l,hlt,hc,ha,hcell with
 |[],hlt,hc,ha,hcell =>
  clear hlt ha hcell;go_enter func177,ntmps177
  go_wp2
  go_quiet (fail)
  go_wp2
  go_ret
  exact⟨rfl,zAd (zAa _ _) _⟩
 |[x],hlt,hc,ha,hcell =>
  clear hlt ha hcell;go_enter func177,ntmps177
  go_wp2
  go_quiet (fail)
  go_wp2
  go_ret
  exact⟨rfl,zAd (zAa _ _) _⟩
 |x :: y :: r,hlt,hc,ha,hcell =>
  obtain⟨rfl,ha2⟩:=ha (by simp);have c0:w.cell? ⟨sb,so,none⟩=some (.int .u8 (x:Nat)):=hcell 0 (by simp);have c1:w.cell? ⟨sb,so+1,none⟩=some (.int .u8 (y:Nat)):=hcell 1 (by simp);have hx:=hlt x (by simp);have hy:=hlt y (by simp);obtain⟨N,hN⟩:∃ N,N=Wh.needless (x :: y :: r):=⟨_,rfl⟩
  rw[<-hN];have HN:=hid hN;obtain⟨n,hn⟩:∃ n,n=(x :: y :: r).length:=⟨_,rfl⟩
  have hn2:1<n:=by rw[hn];simp
  rw[<-hn]at hc ⊢;have hd:decide ((1:Int)<n)=true:=decide_eq_true (by omega);clear hlt ha hcell hN hn;go_enter func177,ntmps177
  go_wp2
  go_quiet (fail)
  go_wp2
  go_ret
  exact⟨retB (by rw[HN.out];exact zGe x y r hx hy),zAd (zAa _ _) _⟩
namespace Wh
theorem val_snoc (c:Nat) (l:List Nat) (hl:l≠[]):val (l++[c])=val l*256+c:=by
 match l,hl with
 |x :: r,_ =>
  have hn:=num_snoc c (x :: r);rw[List.cons_append]at hn ⊢;rw[val,val,hn,List.length_append,List.length_singleton,Nat.pow_succ];generalize num (x :: r)=p;rw[Nat.pow_succ 256 r.length];generalize 256 ^ r.length=q;split <;> omega
end Wh
def zCb (A:Nat->Addr) (l:List Nat) (e:Ending):Prop :=
 match Wh.get l with
 |.ok n=>e=.returned (.tuple #[.int .i64 n,.nilIface])
 |.error k=>e=.returned (.tuple #[.int .i64 0,errV A k])
theorem zIg (l:List Nat) (k:Nat) (h:k<l.length):l.take (k+1)=l.take k++[l.getD k 0]:=by
 have e:l.getD k 0=l[k]:=by rw[List.getD_eq_getElem?_getD,List.getElem?_eq_getElem h];rfl
 rw[List.take_add_one,List.getElem?_eq_getElem h,e];rfl
theorem zH9 (x:Nat) (r:List Nat) (h:∀ z∈x :: r,z<256) (hl:r.length<7) : -(128*72057594037927936:Int)/256<=Wh.val (x :: r)/\Wh.val (x :: r)<(128*72057594037927936:Int)/256:=by
 have h1:=Wh.val_lo h;have hp:256 ^ r.length<=256 ^ 6:=Nat.pow_le_pow_right (by decide) (by omega);have c1:((256:Int) ^ r.length)=((256 ^ r.length:Nat):Int):=by simp
 rw[show(256 ^ 6:Nat)=281474976710656 by decide]at hp;rw[c1]at h1;generalize 256 ^ r.length=p at *;omega
theorem zMm (n:Int) (c:Nat) (hc:c<256) (h1 : -36028797018963968<=n) (h2:n<36028797018963968):bits .or .i64 (n*256) (c:Int)=n*256+c:=by
 show IntKind.i64.wrap ((BitVec.ofInt 64 (n*256) ||| BitVec.ofInt 64 (c:Int)).toNat:Int)=_
 obtain⟨v,hv⟩:∃ v:Nat,(v:Int)=n%72057594037927936:=⟨(n%72057594037927936).toNat,by omega⟩
 have e1:(BitVec.ofInt 64 (n*256)).toNat=256*v:=by
  rw[BitVec.toNat_ofInt];simp only[Nat.reducePow,Int.cast_ofNat_Int];omega
 have e2:(BitVec.ofInt 64 (c:Int)).toNat=c:=by
  rw[BitVec.ofInt_natCast,BitVec.toNat_ofNat];exact Nat.mod_eq_of_lt (by omega)
 have e3:256*v ||| c=256*v+c:=(Nat.two_pow_add_eq_or_of_lt (i:=8) (b:=c) (by omega) v).symm;rw[BitVec.toNat_or,e1,e2,e3];simp only[IntKind.wrap,IntKind.bits,IntKind.signed];simp;omega
theorem zLR (p:Nat->Int) (q:Nat->Nat) (m x sb so c:Nat) (a1:Option Addr) (sb1 so1 cc1:Nat) (w:World)
  (hN:Calls prog 177 #[.slice (some ⟨sb,so,none⟩) (m+1) c] w fun e w'=>e=.returned (.bool false)/\w.grownBy w' none)
  (hx:x<256) (c0:w.cell? ⟨sb,so,none⟩=some (.int .u8 (x:Nat))) (hsb:sb<w.heap.size) (hm:m<=7) (hc:m+1<=c)
  (hv0:p 0=IntKind.i8.wrap (x:Int)) (hV:∀ j,j<m->p (j+1)=p j*256+(q j:Nat)/\q j<256)
  (hR:∀ j,j<=m->j<7->-(128*72057594037927936:Int)/256<=p j/\p j<(128*72057594037927936:Int)/256)
  (he:Value.slice (subA (some ⟨sb,so,none⟩) 1 c) m (c-1)=.slice a1 m cc1) (ha:0<m->a1=some ⟨sb1,so1,none⟩)
  (hcell:∀ j,j<m->w.cell? ⟨sb1,so1+j,none⟩=some (.int .u8 (q j:Nat))) :
  Calls prog 157 #[.slice (some ⟨sb,so,none⟩) (m+1) c] w fun e w'=>e=.returned (.tuple #[.int .i64 (p m),.nilIface])/\w.grownBy w' none:=by
 have HN:=hid hN;have HC:=hid (fun(w':World) (hg:w.grownBy w' none)=>by
  have:=c0;rw[<-World.cell?_of_block (hg.block _ hsb (by simp))]at this;exact this)
 have h8i:(IntKind.i8.wrap (x:Int))=if 127<x then(x:Int)-256 else x:=zEu x hx
 have hw1:IntKind.i64.wrap (IntKind.i8.wrap (x:Int))=p 0:=by
  rw[hv0,h8i];simp only[IntKind.wrap,IntKind.bits,IntKind.signed];simp;split <;> omega
 rcases Nat.eq_zero_or_pos m with rfl|hpos
 ·clear h8i hV hR he ha hcell hN hv0;go_enter func157,ntmps157
  go_wp2_with (go_at_call 177;refine HN.out.mono ?_;rintro e w' ⟨rfl,hg⟩;have HG:=hid hg;have c0':=HC.out w' hg;clear hg)
  obtain⟨wo,hwo⟩:∃ wo:World,wo=w':=⟨_,rfl⟩
  have HWo:=hid hwo;clear hwo;go_loopw [4,26] (fun n i wr=>n=.int .i64 (p 0)/\i=.int .i64 0/\wr=wo) (fun _ i _=>1)
  case atStart=>exact⟨rfl,rfl,HWo.out.symm⟩
  case round =>
   obtain⟨rfl,rfl,rfl⟩:=hrel;go_wp2
   go_ret2
   exact⟨rfl,by rw[HWo.out];exact HG.out⟩
 ·have hsub:subA (some ⟨sb,so,none⟩) 1 c=some ⟨sb1,so1,none⟩:=by
   rw[<-ha hpos];simp only[Value.slice.injEq]at he;exact he.1
  have hsb1:sb1=sb:=by
   rw[subA,if_neg (by omega),Option.map_some,addr_addO]at hsub;simp only[Option.some.injEq,Addr.mk.injEq]at hsub;exact hsub.1.symm
  have HV:=hid hV;have HR:=hid hR;have HCe:=hid (fun(w':World) (hg:w.grownBy w' none) (j:Nat) (hj:j<m)=>by
   have:=hcell j hj;rw[<-World.cell?_of_block (hg.block _ (show(⟨sb1,so1+j,none⟩:Addr).block<_ by rw[hsb1];exact hsb) (by simp))]at this;exact this)
  clear h8i hV hR he ha hcell hN hv0 hsb1;go_enter func157,ntmps157
  go_wp2_with (go_at_call 177;refine HN.out.mono ?_;rintro e w' ⟨rfl,hg⟩;have HG:=hid hg;have c0':=HC.out w' hg;clear hg)
  obtain⟨wo,hwo⟩:∃ wo:World,wo=w':=⟨_,rfl⟩
  have HWo:=hid hwo;clear hwo;go_loopw [4,26] (fun n i wr=>∃ k:Nat,k<=m/\n=.int .i64 (p k)/\i=.int .i64 k/\wr=wo) (fun _ i _=>m-(intOf i).toNat)
  case atStart=>exact⟨0,by omega,rfl,rfl,HWo.out.symm⟩
  case round =>
   obtain⟨k,hk,rfl,rfl,rfl⟩:=hrel;by_cases hkm:k<m
   ·have hv:=HV.out k hkm;have hr:=HR.out k hk (by omega);have hc1:=HCe.out _ HG.out k hkm;rw[<-HWo.out]at hc1;obtain⟨hv1,hv2⟩:=hv;have HV1:=hid hv1;generalize p k=P at *;generalize q k=y at *;have hor:=zMm P y hv2 (by omega) (by omega);clear hv1;go_wp2
    go_roundw
    case rel=>exact⟨k+1,by omega,by rw[HV1.out],by go_num,trivial⟩
    case measure=>simp[intOf];omega
   ·obtain rfl:k=m:=by omega
    go_wp2
    go_ret2
    exact⟨rfl,by rw[HWo.out];exact HG.out⟩
theorem zLQ (A:Nat->Addr) (v:Value) (l:List Nat) (w:World) (hB:Bytes w v l) (hE:AllErrs w A) :
  Calls prog 157 #[v] w fun e w'=>zCb A l e/\w.grownBy w' none:=by
 have HN:=hid (zFg v l w hB);have HE:=hid hE;have eS:=zDC hE;have HB:=hid hB;have HES:Hid (∀ W,w.grownBy W none->W.cell? ⟨5,0,none⟩=some (errV A 4)/\W.cell? ⟨2,0,none⟩=some (errV A 1)):=hid (fun W hW=>⟨zG0 (hE.grown hW),zDD (hE.grown hW)⟩);clear hE;obtain⟨hlt,a,sb,so,c,rfl,hc,ha,hcell⟩:=hB
 match l,HN,HB,hlt,hc,ha,hcell with
 |[],HN,HB,hlt,hc,ha,hcell =>
  clear hlt ha hcell;have HX:Hid (∀ e,e=Ending.returned (.tuple #[.int .i64 0,errV A 2])->zCb A [] e):=hid (fun e h=>by unfold zCb;rw[show Wh.get []=.error 2 from rfl];exact h);go_enter func157,ntmps157
  go_wp2
  go_quiet (fail)
  go_wp2
  go_ret2
  exact⟨HX.out _ rfl,zAd (zAa _ _) _⟩
 |x :: r,HN,HB,hlt,hc,ha,hcell =>
  obtain⟨rfl,ha2⟩:=ha (by simp);have c0:w.cell? ⟨sb,so,none⟩=some (.int .u8 (x:Nat)):=hcell 0 (by simp);have hx:=hlt x (by simp);by_cases hneed:Wh.needless (x :: r)=true
  ·have HX:Hid (∀ e,e=Ending.returned (.tuple #[.int .i64 0,errV A 4])->zCb A (x :: r) e):=hid (fun e h=>by unfold zCb;rw[Wh.get,if_neg (by simp),if_pos hneed];exact h);rw[hneed]at HN;obtain⟨n,hn⟩:∃ n,n=(x :: r).length:=⟨_,rfl⟩
   have hn2:0<n:=by rw[hn];simp
   rw[<-hn]at hc HN ⊢;clear hlt ha hcell hn c0 hneed;go_enter func157,ntmps157
   go_wp2_with (go_at_call 177;refine HN.out.mono ?_;rintro e w' ⟨rfl,hg⟩;have HG:=hid hg;have eF:=(HES.out _ hg).1;clear hg)
   go_quiet (fail)
   go_wp2
   go_ret2
   exact⟨HX.out _ rfl,zAd HG.out _⟩
  ·rw[Bool.not_eq_true]at hneed;rw[hneed]at HN;by_cases h8:8<(x :: r).length
   ·have HX:Hid (∀ e,e=Ending.returned (.tuple #[.int .i64 0,errV A 1])->zCb A (x :: r) e):=hid (fun e h=>by unfold zCb;rw[Wh.get,if_neg (by simp),if_neg (by rw[hneed];simp),if_pos h8];exact h);obtain⟨n,hn⟩:∃ n,n=(x :: r).length:=⟨_,rfl⟩
    rw[<-hn]at hc HN h8 ⊢;clear hlt ha hcell hn c0 hneed;go_enter func157,ntmps157
    go_wp2_with (go_at_call 177;refine HN.out.mono ?_;rintro e w' ⟨rfl,hg⟩;have HG:=hid hg;have eR:=(HES.out _ hg).2;clear hg)
    go_quiet (fail)
    go_wp2
    go_ret2
    exact⟨HX.out _ rfl,zAd HG.out _⟩
   ·have HX:Hid (∀ e,e=Ending.returned (.tuple #[.int .i64 (Wh.val (x :: r)),.nilIface])->zCb A (x :: r) e):=hid (fun e h=>by unfold zCb;rw[Wh.get,if_neg (by simp),if_neg (by rw[hneed];simp),if_neg h8];exact h);have HF0:=Bytes.from HB.out 1 (by simp)
    have hv0:Wh.val [x]=IntKind.i8.wrap (x:Int):=by
     rw[zEu x hx,Wh.val];simp[Wh.num]
    have HV:Hid (∀ j,j<r.length->Wh.val (x :: r.take (j+1))=Wh.val (x :: r.take j)*256+(r.getD j 0:Nat)/\r.getD j 0<256):=hid (fun j hj=>by
     rw[zIg r j hj];exact⟨Wh.val_snoc _ (x :: r.take j) (by simp),zAY (fun y hy=>hlt y (by simp[hy])) j⟩)
    have HR:Hid (∀ j,j<=r.length->j<7->-(128*72057594037927936:Int)/256<=Wh.val (x :: r.take j)/\Wh.val (x :: r.take j)<(128*72057594037927936:Int)/256):=hid (fun j hj h7=>zH9 x (r.take j) (fun z hz=>hlt z (by simp only[List.mem_cons]at hz ⊢;exact hz.imp id List.mem_of_mem_take)) (by rw[List.length_take];omega));have HVe:Hid (Wh.val (x :: r)=Wh.val (x :: r.take r.length)):=hid (by rw[List.take_length]);obtain⟨m,hm⟩:∃ m,m=r.length:=⟨_,rfl⟩
    have hn:(x :: r).length=m+1:=by rw[hm,List.length_cons]
    obtain⟨_,a1,sb1,so1,cc1,he1,hc1,ha1,hcell1⟩:=HF0;rw[hn]at hc HN h8 he1 ⊢;rw[Nat.add_sub_cancel]at he1;have hdl:((x :: r).drop 1).length=m:=by rw[hm];rfl
    rw[hdl]at he1;rw[<-hm]at HV HR HVe;rw[hdl]at hc1 ha1 hcell1;have Hc1:Hid (∀ j,j<m->w.cell? ⟨sb1,so1+j,none⟩=some (.int .u8 (r.getD j 0:Nat))):=hid hcell1;have HNf:=hid (HN.out);have:=zLR (fun j=>Wh.val (x :: r.take j)) (fun j=>r.getD j 0) m x sb so c a1 sb1 so1 cc1 w HN.out hx c0 ha2 (by omega) (by omega) hv0 HV.out HR.out he1 (fun h=>(ha1 h).1) Hc1.out;exact this.mono (by rintro e w' ⟨rfl,hg⟩;exact⟨HX.out _ (by rw[HVe.out]),hg⟩)
def zBX (l:List Nat) (least most:Int):Int×Nat :=
 match Wh.get l with
 |.error k=>(0,k)
 |.ok n=>if n<least∨most<n then(0,1)else(n,0)
theorem zIJ (A:Nat->Addr) (v:Value) (l:List Nat) (least most:Int) (w:World) (hB:Bytes w v l) (hE:AllErrs w A) :
  Calls prog 127 #[v,.int .i64 least,.int .i64 most] w fun e w'=>e=.returned (.tuple #[.int .i64 (zBX l least most).1,zAu A (zBX l least most).2])/\w.grownBy w' none:=by
 have hG:=zLQ A v l w hB hE;have HE:=hid (fun W hW=>zDD (hE.grown (w':=W) hW));obtain⟨_,va,vb,vo,vc,rfl,_⟩:=hB;unfold zCb at hG;unfold zBX;generalize l.length=n at *;clear hE;cases hg:Wh.get l with
 |error k =>
  have hk:k≠0:=by
   intro h;subst h;rw[Wh.get]at hg;split at hg
   ·cases hg
   ·split at hg
    ·cases hg
    ·split at hg <;> cases hg
  rw[hg]at hG;have HGt:=hid hG;clear hg hG;have HEr:Hid (zAu A k=errV A k):=hid (by rw[zAu,if_neg hk]);go_enter func127,ntmps127
  go_wp2_with (go_at_call 157;refine HGt.out.mono ?_;rintro e w' ⟨rfl,hg⟩;have HG:=hid hg;clear hg)
  go_ret2
  exact⟨by rw[HEr.out];rfl,HG.out⟩
 |ok z =>
  rw[hg]at hG;have HGt:=hid hG;clear hg hG;by_cases h1:z<least
  ·go_enter func127,ntmps127
   go_wp2_with (go_at_call 157;refine HGt.out.mono ?_;rintro e w' ⟨rfl,hg⟩;have HG:=hid hg;have eR:=HE.out _ hg;clear hg)
   go_quiet (fail)
   go_wp2
   go_ret2
   exact⟨rfl,zAd HG.out _⟩
  ·by_cases h2:most<z
   ·go_enter func127,ntmps127
    go_wp2_with (go_at_call 157;refine HGt.out.mono ?_;rintro e w' ⟨rfl,hg⟩;have HG:=hid hg;have eR:=HE.out _ hg;clear hg)
    go_quiet (fail)
    go_wp2
    go_ret2
    exact⟨rfl,zAd HG.out _⟩
   ·go_enter func127,ntmps127
    go_wp2_with (go_at_call 157;refine HGt.out.mono ?_;rintro e w' ⟨rfl,hg⟩;have HG:=hid hg;clear hg)
    go_ret2
    exact⟨rfl,HG.out⟩
end Go.Proofs.YtijkaknggdaajaaGreatDoor
