import Derived.Test.YtijkaknggdaajaaGreatDoorZw08
import Derived.Test.YtijkaknggdaajaaGreatDoorZw09
set_option linter.unusedVariables false
set_option linter.unusedSimpArgs false
set_option maxRecDepth 100000
set_option maxHeartbeats 8000000
namespace Go.Proofs.YtijkaknggdaajaaGreatDoor
open Go.Proofs.Tryz
open Lib (hid)
open Go.RowKit
def isOB (l:List Nat) (base:Nat):Value->World->Prop:=fun x w=>w.ownsRow base 5 1 x l.length (cellsL l)
theorem zHf (l:List Nat) (base:Nat):zFD (isOB l base):=fun _ _ _ hg h=>World.ownsRow.kept h hg (Classical.em _)
noncomputable def op_regionC:Code:=zBn Tryz.f97.body 1
theorem zFd (a:Act) (sb so n c:Nat) (x y:Nat) (B:List Nat) (W w:World) (Q:Exit->Act->World->Prop) (hsz:a.tmps.size=28)
  (h0:a.eval (.tmp 0)=.slice (some ⟨sb,so,none⟩) n c)
  (hn:1<n)
  (h0c:∀ w,W.grownBy w none->w.cell? ⟨sb,so+0,none⟩=some (.int .i64 ((x:Nat):Int)))
  (h1c:∀ w,W.grownBy w none->w.cell? ⟨sb,so+1,none⟩=some (.int .i64 ((y:Nat):Int)))
  (hm:IntKind.i64.wrap (40*((x:Nat):Int))=((40*x:Nat):Int))
  (ha:IntKind.i64.wrap (((40*x:Nat):Int)+((y:Nat):Int))=((40*x+y:Nat):Int))
  (hS:∀ w,W.grownBy w none->Calls prog 135 #[.int .i64 ((40*x+y:Nat):Int)] w fun e w'=>∃ v,e=.returned v/\w.grownBy w' none/\isOB B W.heap.size v w')
  (hw:W.grownBy { w with drawn:=w.drawn+1 } none)
  (hQ:∀ us w' v,W.grownBy w' none->isOB B W.heap.size v w'->Q .normal ((fill a [6,7,8,9,10,11,12,13,14] us).put (some 3) v) w'):op_regionC.wp prog Q a w:=by
 have hst:zA9 [isV (.slice (some ⟨sb,so,none⟩) n c),isV (.pointer (some ⟨sb,so+0,none⟩)),isV (.int .i64 ((x:Nat):Int)),isV (.int .i64 ((40*x:Nat):Int)),isV (.slice (some ⟨sb,so,none⟩) n c),isV (.pointer (some ⟨sb,so+1,none⟩)),isV (.int .i64 ((y:Nat):Int)),isV (.int .i64 ((40*x+y:Nat):Int)),isOB B W.heap.size]:=⟨zAj _,zAj _,zAj _,zAj _,zAj _,zAj _,zAj _,zAj _,zHf _ _,trivial⟩
 conv=>arg 2;whnf
 refine zAG 9 [6,7,8,9,10,11,12,13,14] (fun w'=>W.grownBy w' none) (fun w w'=>w.grownBy w' none) (flF [isV (.slice (some ⟨sb,so,none⟩) n c),isV (.pointer (some ⟨sb,so+0,none⟩)),isV (.int .i64 ((x:Nat):Int)),isV (.int .i64 ((40*x:Nat):Int)),isV (.slice (some ⟨sb,so,none⟩) n c),isV (.pointer (some ⟨sb,so+1,none⟩)),isV (.int .i64 ((y:Nat):Int)),isV (.int .i64 ((40*x+y:Nat):Int)),isOB B W.heap.size]) (by kernel_rfl) (by kernel_rfl) (fun _ _ h k=>zAb k h) (fun j x w w' hg h=>zA3 hst j x w w' hg h) hw ?_ ?_
 ·refine⟨?_,?_,?_,?_,?_,?_,?_,?_,?_,trivial⟩
  ·exact zAg (fun us w hC hd=>zAf rfl) (fun us w hC hd=>⟨_,w,zAz rfl ((fill_old (by rfl)).trans h0),zAa _ _,rfl⟩)
  ·exact zAg (fun us w hC hd=>zAf rfl) (fun us w hC hd=>⟨_,w,zEt rfl ((fill_tmp (by rfl) (by rw[hsz];decide)).trans (hd 0 (by decide))) rfl (idxI w sb so n c 0 (by omega)),zAa _ _,rfl⟩)
  ·exact zAg (fun us w hC hd=>zAf rfl) (fun us w hC hd=>⟨_,w,zAQ rfl ((fill_tmp (by rfl) (by rw[hsz];decide)).trans (hd 1 (by decide))) (zGf (h0c w hC)),zAa _ _,rfl⟩)
  ·exact zAg (fun us w hC hd=>zAf rfl) (fun us w hC hd=>⟨_,w,(zDY rfl rfl ((fill_tmp (by rfl) (by rw[hsz];decide)).trans (hd 2 (by decide)))).trans (by rw[hm]),zAa _ _,rfl⟩)
  ·exact zAg (fun us w hC hd=>zAf rfl) (fun us w hC hd=>⟨_,w,zAz rfl ((fill_old (by rfl)).trans h0),zAa _ _,rfl⟩)
  ·exact zAg (fun us w hC hd=>zAf rfl) (fun us w hC hd=>⟨_,w,zEt rfl ((fill_tmp (by rfl) (by rw[hsz];decide)).trans (hd 4 (by decide))) rfl (idxI w sb so n c 1 (by omega)),zAa _ _,rfl⟩)
  ·exact zAg (fun us w hC hd=>zAf rfl) (fun us w hC hd=>⟨_,w,zAQ rfl ((fill_tmp (by rfl) (by rw[hsz];decide)).trans (hd 5 (by decide))) (zGf (h1c w hC)),zAa _ _,rfl⟩)
  ·exact zAg (fun us w hC hd=>zAf rfl) (fun us w hC hd=>⟨_,w,(zEa rfl ((fill_tmp (by rfl) (by rw[hsz];decide)).trans (hd 3 (by decide))) ((fill_tmp (by rfl) (by rw[hsz];decide)).trans (hd 6 (by decide)))).trans (by rw[ha]),zAa _ _,rfl⟩)
  ·refine zA7 135 (fun us=>#[us 13]) (fun us w hC hd=>zAf rfl) (fun us w=>by rw[zAX rfl (fun _ _=>by simp[go_sem]),List.map_toArray,List.map_cons,List.map_nil,fill_tmp (by rfl) (by rw[hsz];decide)]) (fun us w hC' hd=>?_);rw[show us 13=.int .i64 ((40*x+y:Nat):Int)from hd 7 (by decide)];exact hS w hC'
 ·intro us w' hC' hd;exact wpList_last rfl (assign_val rfl (fill_tmp (by rfl) (by rw[hsz];decide))) (hQ us w' _ hC' (hd 8 (by decide)))
namespace Od
def rest:List Int->List Nat
 |[]=>[]
 |n :: r=>sept n.toNat++rest r
def put (l:List Int):List Nat:=sept (40*(l.getD 0 0).toNat+(l.getD 1 0).toNat)++rest (l.drop 2)
theorem rest_snoc:∀ (l:List Int) (n:Int),rest (l++[n])=rest l++sept n.toNat
 |[],n=>by simp[rest]
 |x :: r,n=>by rw[List.cons_append,rest,rest_snoc r n,rest,List.append_assoc]
theorem rest_take (l:List Int) (k:Nat) (h:k<l.length):rest (l.take (k+1))=rest (l.take k)++sept (l.getD k 0).toNat:=by
 have e:l.getD k 0=l[k]:=by rw[List.getD_eq_getElem?_getD,List.getElem?_eq_getElem h];rfl
 rw[List.take_add_one,List.getElem?_eq_getElem h,Option.toList_some,rest_snoc,e]
theorem rest_len:∀ l:List Int,(rest l).length<=6*l.length
 |[]=>by simp[rest]
 |n :: r=>by
  have h1:=rest_len r;have h2:(sept n.toNat).length<=6:=septUpto_len _ 6;rw[rest,List.length_append,List.length_cons];omega
theorem sept_len (n:Nat):(sept n).length<=6:=septUpto_len n 6
end Od
theorem zBx {w:World} {b1 b2:Nat} {e:TypeId} {s:Nat} {v:Value} {n:Nat} {xs:List Value} (h:w.ownsRow b2 e s v n xs) (hb:b1<=b2):w.ownsRow b1 e s v n xs:=by
 refine⟨h.1,?_⟩;rcases h.2 with h1|⟨g,cap,cur,h1,h2,h3⟩
 ·exact .inl h1
 ·exact .inr ⟨g,cap,cur,h1,Nat.le_trans hb h2,h3⟩
theorem zFT (v:Value) (l:List Int) (w:World) (hB:Ints w v l) (hr:Od.right l=true) :
  Calls prog 97 #[v] w fun e w'=>∃ u,e=.returned u/\FrW w w' u (Od.put l):=by
 obtain⟨⟨hl2,hl16,hx0,hx2,hxy⟩,hall⟩:=(Od.right_iff l).1 hr;have hnat:∀ j,j<l.length->∃ u:Nat,l.getD j 0=u/\u<=2147483647:=fun j hj=>by
  have:=hall l[j] (List.getElem_mem hj);have e:l.getD j 0=l[j]:=by rw[List.getD_eq_getElem?_getD,List.getElem?_eq_getElem hj];rfl
  exact⟨(l.getD j 0).toNat,by omega,by omega⟩
 obtain⟨x,hx,hxb⟩:=hnat 0 (by omega);obtain⟨y,hy,hyb⟩:=hnat 1 (by omega);have hx2':x<=2:=by omega
 have HPut:Hid (Od.put l=Od.sept (40*x+y)++Od.rest (l.drop 2)):=hid (by rw[Od.put,hx,hy,Int.toNat_natCast,Int.toNat_natCast]);obtain⟨m,hm⟩:∃ m,l.length=m+2:=⟨l.length-2,by omega⟩
 have hB2:=hB;obtain⟨a,sb,so,c,rfl,hc,ha,hcell⟩:=hB2;obtain⟨rfl,hsb⟩:=ha (by omega);have hF:=Ints.from hB 2 (by omega)
 obtain⟨a1,sb1,so1,c1,he,hc1,ha1,hcell1⟩:=hF;have hdl:(l.drop 2).length=m:=by rw[List.length_drop];omega
 obtain⟨r,hrr⟩:∃ r,r=l.drop 2:=⟨_,rfl⟩
 rw[<-hrr]at hdl he hc1 ha1 hcell1 HPut;rw[hdl]at he hc1 ha1 hcell1;have hrnat:∀ j,j<m->∃ u:Nat,r.getD j 0=u/\u<=2147483647:=fun j hj=>by
  obtain⟨u,h1,h2⟩:=hnat (j+2) (by omega);refine⟨u,?_,h2⟩;rw[<-h1,hrr];simp[List.getD_eq_getElem?_getD,Nat.add_comm]
 have HRn:=hid hrnat;have HRt:Hid (∀ k,k<m->Od.rest (r.take (k+1))=Od.rest (r.take k)++Od.sept (r.getD k 0).toNat):=hid (fun k hk=>Od.rest_take r k (by omega));have HRl:Hid (∀ k,(Od.rest (r.take k)).length<=6*k):=hid (fun k=>by
  have:=Od.rest_len (r.take k);rw[List.length_take]at this;omega)
 have HRe:Hid (Od.rest (r.take m)=Od.rest r):=hid (by rw[List.take_of_length_le (by omega)]);have c00:=hcell 0 (by omega);have c01:=hcell 1 (by omega);rw[hx]at c00;rw[hy]at c01;rw[hm]at hc he ⊢;have HS:=hid (fun(n:Nat) (hn:n<=2147483800) W=>zFR n hn W);have HSl:=hid Od.sept_len;have HSt:Hid (∀ n,∀ z∈Od.sept n,z<256):=hid (fun n=>Od.septUpto_lt n 6);have HC0:=hid (fun(W:World) (hW:w.grownBy W none)=>by
  have:=c00;rw[<-World.cell?_of_block (hW.block sb hsb (by simp))]at this;exact this)
 have HC1:=hid (fun(W:World) (hW:w.grownBy W none)=>by
  have:=c01;rw[<-World.cell?_of_block (hW.block sb hsb (by simp))]at this;exact this)
 have HCr:=hid (fun(W:World) (hW:w.grownBy W none) (j:Nat) (hj:j<m)=>by
  have:=hcell1 j hj;rw[<-World.cell?_of_block (hW.block sb1 (ha1 (by omega)).2 (by simp))]at this;exact this)
 have hm14:m<=14:=by omega
 have ha1':=fun h=>(ha1 h).1
 have HA1:=hid ha1';have hsub:subA (some ⟨sb,so,none⟩) 2 c=a1:=by
  simp only[Value.slice.injEq]at he;exact he.1
 clear he;clear hall hnat hr hB hcell hcell1 hrnat ha ha1 ha1' hrr hx hy hxy hx0 hx2 hl2 hl16 c00 c01;rcases Nat.eq_zero_or_pos m with hmp|hmp
 ·have HM0:=hid hmp;clear hmp;go_enter func97,ntmps97
  go_wp2
  refine zFd _ sb so (m+2) c x y (Od.sept (40*x+y)) w _ _ rfl rfl (by omega) (fun W hW=>HC0.out W hW) (fun W hW=>HC1.out W hW) ?_ ?_ (fun W hW=>(HS.out _ (by omega) W).mono (fun e w' ⟨u,h1,h2⟩=>⟨u,h1,h2.grown,by
   obtain⟨g1,g2⟩:=h2;exact zBx g2 hW.size⟩)) ⟨rfl,rfl,rfl,Nat.le_refl _,fun _ _ _=>rfl⟩ (fun us w3 out hg3 hO3=>?_)
  ·simp only[IntKind.wrap,IntKind.bits,IntKind.signed];simp;omega
  ·simp only[IntKind.wrap,IntKind.bits,IntKind.signed];simp;omega
  simp only[zAA,zAN,Act.put,List.setIfInBounds_toArray,List.set_cons_succ,List.set_cons_zero];have F3:Hid (FrW w w3 out (Od.sept (40*x+y))):=hid ⟨hg3,hO3⟩;obtain⟨S0,hS0⟩:∃ S0,S0=Od.sept (40*x+y):=⟨_,rfl⟩
  have HS0:Hid (S0.length<=6):=hid (by rw[hS0];exact HSl.out _);rw[<-hS0]at F3 HPut;have FS:Hid (FrW w w3 out (S0++Od.rest (r.take 0))):=hid (by rw[show Od.rest (r.take 0)=[]from rfl,List.append_nil];exact F3.out);clear hg3 hO3 hS0;go_wp2
  go_loopw [3,18] (fun o i wr=>∃ k:Nat,k<=m/\i=.int .i64 k/\FrW w wr o (S0++Od.rest (r.take k))) (fun _ i _=>m-(intOf i).toNat)
  case atStart=>exact⟨0,by omega,rfl,FS.out⟩
  case round =>
   obtain⟨k,hk,rfl,hF⟩:=hrel;have HF:=hid hF;clear hF;obtain rfl:k=m:=by have:=HM0.out;omega
   go_wp2
   go_ret
   exact⟨_,rfl,by rw[HPut.out,<-HRe.out];exact HF.out⟩
 ·have hsub1:=HA1.out hmp;rw[hsub1]at hsub;go_enter func97,ntmps97
  go_wp2
  refine zFd _ sb so (m+2) c x y (Od.sept (40*x+y)) w _ _ rfl rfl (by omega) (fun W hW=>HC0.out W hW) (fun W hW=>HC1.out W hW) ?_ ?_ (fun W hW=>(HS.out _ (by omega) W).mono (fun e w' ⟨u,h1,h2⟩=>⟨u,h1,h2.grown,by
   obtain⟨g1,g2⟩:=h2;exact zBx g2 hW.size⟩)) ⟨rfl,rfl,rfl,Nat.le_refl _,fun _ _ _=>rfl⟩ (fun us w3 out hg3 hO3=>?_)
  ·simp only[IntKind.wrap,IntKind.bits,IntKind.signed];simp;omega
  ·simp only[IntKind.wrap,IntKind.bits,IntKind.signed];simp;omega
  simp only[zAA,zAN,Act.put,List.setIfInBounds_toArray,List.set_cons_succ,List.set_cons_zero];have F3:Hid (FrW w w3 out (Od.sept (40*x+y))):=hid ⟨hg3,hO3⟩;obtain⟨S0,hS0⟩:∃ S0,S0=Od.sept (40*x+y):=⟨_,rfl⟩
  have HS0:Hid (S0.length<=6):=hid (by rw[hS0];exact HSl.out _);rw[<-hS0]at F3 HPut;have FS:Hid (FrW w w3 out (S0++Od.rest (r.take 0))):=hid (by rw[show Od.rest (r.take 0)=[]from rfl,List.append_nil];exact F3.out);clear hg3 hO3 hS0;go_wp2
  go_loopw [3,18] (fun o i wr=>∃ k:Nat,k<=m/\i=.int .i64 k/\FrW w wr o (S0++Od.rest (r.take k))) (fun _ i _=>m-(intOf i).toNat)
  case atStart=>exact⟨0,by omega,rfl,FS.out⟩
  case round =>
   obtain⟨k,hk,rfl,hF⟩:=hrel;have HF:=hid hF;clear hF;by_cases hkm:k<m
   ·have hck:=HCr.out _ HF.out.grown k hkm;obtain⟨u,hu,hu2⟩:=HRn.out k hkm;have hrt:=HRt.out k hkm;rw[hu]at hck hrt;rw[Int.toNat_natCast]at hrt;have HRt2:=hid hrt;have hlen1:=HRl.out k;have HLn:Hid ((S0++Od.rest (r.take k)).length<=6+6*k):=hid (by rw[List.length_append];have:=HS0.out;omega);have HSu:=hid (HS.out u (by omega));have HSl2:=hid (HSl.out u);have HSt2:=hid (HSt.out u);generalize Od.sept u=S at *;generalize hAcc:S0++Od.rest (r.take k)=acc at *;have HAcc:=hid hAcc;clear hrt hu hlen1 hAcc;go_wp2_with (first
     |(go_at_call 135;refine(HSu.out _).mono ?_;rintro e w4 ⟨v4,rfl,hF4⟩;have F4:=hid hF4;have HF':Hid (FrW w w4 u3 acc):=hid ⟨zAb HF.out.grown hF4.grown,HF.out.own.kept hF4.grown (Classical.em _)⟩;obtain⟨a4,_,c4,rfl,_⟩:=zAl hF4.own;clear hF4)
     |(at_builtin;refine zAP (by rfl) (.tmp 22) (.tmp 24) 33 (by rfl) w.heap.size 5 (.int .u8 0) 1 underlying33 (by kernel_rfl) rfl (by decide) _ acc.length (cellsL acc) (by rfl) HF'.out.own _ S (by rfl) (Bytes.own F4.out.own HSt2.out) (Whole0.own F4.out.own) (by have:=HLn.out;have:=HSl2.out;omega) HF'.out.le ?_;intro v5 w5 ho5 hg5;have F5:=hid (HF'.out.step (l':=acc++S) ho5 hg5 (zAn _ _).symm);clear ho5 hg5))
    go_roundw
    case rel=>exact⟨k+1,by omega,by go_num,by rw[HRt2.out,<-List.append_assoc,HAcc.out];exact F5.out⟩
    case measure=>simp[intOf];omega
   ·obtain rfl:k=m:=by omega
    go_wp2
    go_ret
    exact⟨_,rfl,by rw[HPut.out,<-HRe.out];exact HF.out⟩
namespace Od
def hiF:Nat->Nat->List Nat
 |0,_=>[]
 |f+1,m=>if m=0 then []else hiF f (m/128)++[m%128+128]
def hi (m:Nat):List Nat:=hiF 10 m
theorem hiF_enough:∀ (f m:Nat),m<128 ^ f->hiF (f+1) m=hiF f m
 |0,m,h=>by
  have:m=0:=by simpa using h
  subst this;rfl
 |f+1,m,h=>by
  rw[hiF]
  conv=>rhs;rw[hiF]
  rw[hiF_enough f (m/128) (by rw[Nat.pow_succ]at h;omega)]
theorem hi_zero:hi 0=[]:=rfl
theorem hi_step {m:Nat} (h0:m≠0) (h:m<1180591620717411303424):hi m=hi (m/128)++[m%128+128]:=by
 rw[hi,hiF,if_neg h0,hi,hiF_enough 9 (m/128) (by rw[show(128 ^ 9:Nat)=9223372036854775808 by decide];omega)]
theorem septUpto_hi (n:Nat) (hn:n<4398046511104):∀ k,k<=5->septUpto n k=hi (n/128 ^ (6-k))
 |0,_=>by
  rw[septUpto,show n/128 ^ (6-0)=0 from Nat.div_eq_of_lt (by rw[show(128 ^ (6-0):Nat)=4398046511104 by decide];exact hn),hi_zero]
 |k+1,hk=>by
  rw[septUpto,septUpto_hi n hn k (by omega),septStep,show 6-(k+1)=5-k by omega,show 6-k=(5-k)+1 by omega];obtain⟨M,hM⟩:∃ M,M=n/128 ^ (5-k):=⟨_,rfl⟩
  have hM2:n/128 ^ (5-k+1)=M/128:=by rw[Nat.pow_succ,<-Nat.div_div_eq_div_mul,hM]
  have hMb:M<=n:=by rw[hM];exact Nat.div_le_self _ _
  rw[hM2,<-hM];by_cases h0:M=0
  ·subst h0;rw[if_neg (by simp[hi_zero];omega)]
  ·rw[if_pos,if_pos (by omega),hi_step h0 (by omega)];by_cases h1:M/128=0
   ·left;omega
   ·right;left
    rw[hi_step h1 (by omega)];simp
theorem sept_hi (n:Nat) (hn:n<4398046511104):sept n=hi (n/128)++[n%128]:=by
 rw[sept,septUpto,septUpto_hi n hn 5 (by omega),septStep];simp
def sval (l:List Nat):Nat:=l.foldl (fun a c=>a*128+c%128) 0
theorem sval_snoc (l:List Nat) (c:Nat):sval (l++[c])=sval l*128+c%128:=by simp[sval]
def piece:List Nat->Option (List Nat×List Nat)
 |[]=>none
 |c :: r=>if c<128 then some ([c],r)else match piece r with
  |none=>none
  |some (p,t)=>some (c :: p,t)
theorem piece_of:∀ (h:List Nat) (d:Nat) (t:List Nat),(∀ c∈h,128<=c)->d<128->piece (h++[d]++t)=some (h++[d],t)
 |[],d,t,_,hd=>by simp[piece,hd]
 |c :: r,d,t,hh,hd=>by
  have h1:=hh c (by simp);rw[List.cons_append,List.cons_append,piece,if_neg (by omega),piece_of r d t (fun x hx=>hh x (by simp[hx])) hd]
def nums:Nat->Nat->List Nat->Except Nat (List Nat)
 |_,_,[]=>.ok []
 |0,_,_ :: _=>.error 0
 |f+1,most,c :: l=>match piece (c :: l)with
  |none=>.error 2
  |some (p,t)=>if p.head?=some 128 then .error 4 else if most<sval p then .error 1 else match nums f 2147483647 t with
   |.error k=>.error k
   |.ok r=>.ok (sval p :: r)
def firstOf (n:Nat):Nat:=if n<40 then 0 else if n<80 then 1 else 2
def get (l:List Nat):Except Nat (List Int) :=
 match nums l.length 2147483727 l with
 |.error k=>.error k
 |.ok []=>.error 2
 |.ok (n :: r) =>
  let a:List Int:=(firstOf n:Nat) ::((n-40*firstOf n:Nat):Int) :: r.map fun(m:Nat)=>(m:Int)
  if right a=true then .ok a else .error 1
end Od
namespace Cal
def pairs (d:Date):List Nat:=[d.Y/100,d.Y%100,d.M,d.D,d.h,d.mi,d.s]
def twos:List Nat->List Nat
 |[]=>[]
 |p :: r=>two p++twos r
theorem twos_snoc:∀ (l:List Nat) (p:Nat),twos (l++[p])=twos l++two p
 |[],p=>by simp[twos]
 |q :: r,p=>by rw[List.cons_append,twos,twos_snoc r p,twos,List.append_assoc]
theorem twos_len:∀ l:List Nat,(twos l).length=2*l.length
 |[]=>rfl
 |q :: r=>by rw[twos,List.length_append,twos_len r,List.length_cons];simp[two];omega
theorem text_twos (d:Date):text d=twos (pairs d)++[90]:=rfl
theorem take_pairs (l:List Nat) (j:Nat) (h:j<l.length):l.take (j+1)=l.take j++[l.getD j 0]:=by
 rw[List.take_add_one,List.getElem?_eq_getElem h,List.getD_eq_getElem?_getD,List.getElem?_eq_getElem h];rfl
theorem pairs_lt {d:Date} (h:Right d):∀ j,(pairs d).getD j 0<100:=by
 obtain⟨⟨y1,y2⟩,⟨m1,m2⟩,⟨d1,d2⟩,h1,mi1,s1⟩:=h;have hd31:=(days_pos (y:=d.Y) m1 m2).2;intro j
 match j with
 |0=>show d.Y/100<100;omega
 |1=>show d.Y%100<100;omega
 |2=>show d.M<100;omega
 |3=>show d.D<100;omega
 |4=>show d.h<100;omega
 |5=>show d.mi<100;omega
 |6=>show d.s<100;omega
 |n+7=>exact Nat.zero_lt_succ _
end Cal
theorem zIc {p:Nat} (hp:p<100) (w:World) (a b:Int) (ha:a=((48+p/10:Nat):Int)) (hb:b=((48+p%10:Nat):Int)):Bytes (w.alloc (.cells #[.int .u8 a,.int .u8 b] 5)) (.slice (some ⟨w.heap.size,0,none⟩) 2 2) (Cal.two p):=by
 subst ha hb;exact Bytes.lit (l:=Cal.two p) (alloc_at w _) (by intro x hx;simp only[Cal.two,List.mem_cons,List.not_mem_nil,or_false]at hx;omega)
theorem own_ne {v v':Value} {n k:Nat} (h:v'.ownBlock=v.ownBlock∨v'.ownBlock=some n) (h1:v.ownBlock≠some k) (h2:n≠k):v'.ownBlock≠some k:=by
 rcases h with h|h
 ·rw[h];exact h1
 ·rw[h];exact fun e=>h2 (Option.some.inj e)
theorem zE2 (d:Cal.Date) (hd:Cal.Right d) (w:World):Calls prog 98 #[dV d.toI] w fun e w'=>∃ v,e=.returned v/\FrW w w' v (Cal.text d):=by
 have HT:=hid (Cal.text_twos d);have HPl:Hid ((Cal.pairs d).length=7):=hid rfl;have HPt:=hid (Cal.take_pairs (Cal.pairs d));have HP1:=hid (Cal.pairs_lt hd);have HP0:Hid ((Cal.pairs d).map (fun(x:Nat)=>Value.int .i64 (x:Int))=[.int .i64 ((d.Y:Int)/100),.int .i64 ((d.Y:Int)%100),.int .i64 (d.M:Int),.int .i64 (d.D:Int),.int .i64 (d.h:Int),.int .i64 (d.mi:Int),.int .i64 (d.s:Int)]):=hid (by simp only[Cal.pairs,List.map_cons,List.map_nil,Int.natCast_ediv,Int.natCast_emod];rfl);obtain⟨P,hP⟩:∃ P,P=Cal.pairs d:=⟨_,rfl⟩
 rw[<-hP]at HT HPl HPt HP1 HP0;obtain⟨TX,hTX⟩:∃ TX,TX=Cal.text d:=⟨_,rfl⟩
 rw[<-hTX]at HT ⊢;obtain⟨⟨y1,y2⟩,⟨m1,m2⟩,⟨d1,d2⟩,h1,mi1,s1⟩:=hd;clear hP hTX d1 d2 m1 m2 h1 mi1 s1;obtain⟨Y,M,D,h,mi,s⟩:=d;simp only[Cal.Date.toI]at y1 y2 HP0 ⊢;have F0:Hid (FrW w (((w.alloc (.cells #[.int .i64 (Y:Int),.int .i64 (M:Int),.int .i64 (D:Int),.int .i64 (h:Int),.int .i64 (mi:Int),.int .i64 (s:Int)] 156)).alloc (.cells #[] 5)).alloc (.cells #[.int .i64 ((Y:Int)/100),.int .i64 ((Y:Int)%100),.int .i64 (M:Int),.int .i64 (D:Int),.int .i64 (h:Int),.int .i64 (mi:Int),.int .i64 (s:Int)] 3)) (.slice (some ⟨w.heap.size+1,0,none⟩) 0 0) []):=hid (by
  refine FrW.alloc ⟨zAc (World.grownBy_alloc _ _ _) _,?_⟩ _;have:=ownsRow_lit (base:=w.heap.size) (alloc_at (w.alloc (.cells #[.int .i64 (Y:Int),.int .i64 (M:Int),.int .i64 (D:Int),.int .i64 (h:Int),.int .i64 (mi:Int),.int .i64 (s:Int)] 156)) (.cells #[] 5)) (by rw[World.size_alloc];omega) (by simp);rw[World.size_alloc]at this;exact this)
 have HW:∃ W0:World,W0=(((w.alloc (.cells #[.int .i64 (Y:Int),.int .i64 (M:Int),.int .i64 (D:Int),.int .i64 (h:Int),.int .i64 (mi:Int),.int .i64 (s:Int)] 156)).alloc (.cells #[] 5)).alloc (.cells #[.int .i64 ((Y:Int)/100),.int .i64 ((Y:Int)%100),.int .i64 (M:Int),.int .i64 (D:Int),.int .i64 (h:Int),.int .i64 (mi:Int),.int .i64 (s:Int)] 3)):=⟨_,rfl⟩
 have HRow:Hid ((((w.alloc (.cells #[.int .i64 (Y:Int),.int .i64 (M:Int),.int .i64 (D:Int),.int .i64 (h:Int),.int .i64 (mi:Int),.int .i64 (s:Int)] 156)).alloc (.cells #[] 5)).alloc (.cells #[.int .i64 ((Y:Int)/100),.int .i64 ((Y:Int)%100),.int .i64 (M:Int),.int .i64 (D:Int),.int .i64 (h:Int),.int .i64 (mi:Int),.int .i64 (s:Int)] 3)).heap[w.heap.size+2]?=some (.cells (P.map (fun(x:Nat)=>Value.int .i64 (x:Int))).toArray 3 (0,0))):=hid (by
  have:=alloc_at ((w.alloc (.cells #[.int .i64 (Y:Int),.int .i64 (M:Int),.int .i64 (D:Int),.int .i64 (h:Int),.int .i64 (mi:Int),.int .i64 (s:Int)] 156)).alloc (.cells #[] 5)) (.cells #[.int .i64 ((Y:Int)/100),.int .i64 ((Y:Int)%100),.int .i64 (M:Int),.int .i64 (D:Int),.int .i64 (h:Int),.int .i64 (mi:Int),.int .i64 (s:Int)] 3);rw[World.size_alloc,World.size_alloc]at this;rw[this,HP0.out])
 obtain⟨W0,hW0⟩:=HW;have hW0':=hW0;rw[<-hW0]at F0 HRow;have HW0:=hid hW0';clear hW0 hW0';go_enter func98,ntmps98
 go_wp2
 rw[<-HW0.out];go_loopw [25,3,5] (fun i v _ wr=>∃ j:Nat,j<=7/\i=.int .i64 ((j:Nat):Int)/\FrW w wr v (Cal.twos (P.take j))/\wr.heap[w.heap.size+2]?=some (.cells (P.map (fun(x:Nat)=>Value.int .i64 (x:Int))).toArray 3 (0,0))/\v.ownBlock≠some (w.heap.size+2)) (fun i _ _ _=>7-(intOf i).toNat)
 case atStart=>exact⟨0,by omega,rfl,F0.out,HRow.out,by intro h;simp[Value.ownBlock]at h⟩
 case round =>
  obtain⟨j,hj,rfl,hF,hr,hne⟩:=hrel;have HF:=hid hF;have HR:=hid hr;have HNe:=hid hne;by_cases hj7:j<7
  ·have hjP:j<P.length:=by rw[HPl.out];exact hj7
   have hcell:wr.cell? ⟨w.heap.size+2,j,none⟩=some (.int .i64 ((P.getD j 0:Nat):Int)):=cell_blk hr j (by simp[hjP]);have HTk:=hid (by
    have:=HPt.out j hjP;exact this)
   have hp:=HP1.out j;generalize P.getD j 0=p at *;have HNx:Hid (Cal.twos (P.take (j+1))=Cal.twos (P.take j)++Cal.two p):=hid (by rw[HTk.out,Cal.twos_snoc]);have HLn:Hid ((Cal.twos (P.take j)).length<=14):=hid (by rw[Cal.twos_len,List.length_take];omega);clear hF hr hne hjP HTk;go_wp2_with (at_builtin;refine zBT (by rfl) (.tmp 29) (.tmp 38) 33 (by rfl) w.heap.size 5 (.int .u8 0) 1 underlying33 (by kernel_rfl) rfl (by decide) _ _ _ (by rfl) (HF.out.own.alloc _) _ (Cal.two p) (by rfl) (zIc hp _ _ _ (by omega) (by omega)) (Whole0.some _ _ _) (by have:=HLn.out;simp only[Cal.two,List.length_cons,List.length_nil];omega) (by have:=HF.out.le;rw[zAe];omega) ?_;intro v3 w3 ho3 hg3 hb3;have HH:=hid ((HF.out.alloc _).step (l':=Cal.twos (P.take (j+1))) ho3 hg3 (by rw[HNx.out];exact(zAn _ _).symm));have HR3:=hid ((hg3.block _ (by rw[zAe];have:=zAi HR.out;omega) (fun e=>HNe.out e.symm)).trans ((Below.heap_alloc _ _ _ (by have:=zAi HR.out;omega)).trans HR.out));have HN3:=hid (own_ne hb3 HNe.out (by rw[zAe];have:=zAi HR.out;omega));clear ho3 hg3 hb3)
   go_roundw
   case rel=>exact⟨j+1,by omega,by go_num,HH.out,HR3.out,HN3.out⟩
   case measure=>simp[intOf];omega
  ·obtain rfl:j=7:=by omega
   have HL:Hid (Cal.twos (P.take 7)=Cal.twos P):=hid (by rw[List.take_of_length_le (by rw[HPl.out];exact Nat.le_refl _)]);rw[HL.out]at HF;have HLn:Hid ((Cal.twos P).length=14):=hid (by rw[Cal.twos_len,HPl.out]);clear hF hr hne;go_wp2_with (at_builtin;refine zAP (by rfl) (.tmp 41) (.tmp 42) 33 (by rfl) w.heap.size 5 (.int .u8 0) 1 underlying33 (by kernel_rfl) rfl (by decide) _ _ _ (by rfl) (HF.out.own.alloc _) _ [90] (by rfl) (Bytes.lit (alloc_at _ _) (by decide)) (Whole0.some _ _ _) (by have:=HLn.out;simp only[List.length_cons,List.length_nil];omega) (by have:=HF.out.le;rw[zAe];omega) ?_;intro v3 w3 ho3 hg3;have HH:=hid ((HF.out.alloc _).step (l':=TX) ho3 hg3 (by rw[HT.out];exact(zAn _ _).symm));clear ho3 hg3)
   go_ret
   exact⟨_,rfl,HH.out⟩
def isOI (l:List Int) (base:Nat):Value->World->Prop:=fun x w=>w.ownsRow base 3 1 x l.length (cellsI l)
theorem zHe (l:List Int) (base:Nat):zFD (isOI l base):=fun _ _ _ hg h=>World.ownsRow.kept h hg (Classical.em _)
section
variable {P:Program} {a:Act} {o:Oper} {w:World}
theorem zDQ {t r:TypeId} {x y:Operand} {k:IntKind} {n m:Int} (ho:o.op=.binOp .sub t x y r) (hx:a.eval x=.int k n) (hy:a.eval y=.int k m):(execOp a.eval o).run P w=.ok (.value (.int k (k.wrap (n-m)))) w:=by
 simp only[execOp,ho,hx,hy];simp[go_sem,eqGuard,Sem.run_pure,binOp]
theorem zFM {t:TypeId} {x lo:Operand} {p u z:Value} (ho:o.op=.slice t x (some lo) none none) (hx:a.eval x=p) (hl:a.eval lo=u) (h:(Instr.sliceAt t p (some u) none none).run P w=.ok z w) :
  (execOp a.eval o).run P w=.ok (.value z) w:=by
 simp only[execOp,ho,hx,hl,Option.map_some,Option.map_none];simp[h,Result.andThen]
end
theorem zKB {a:Act} {o:Oper} {w:World} {x y:Operand} {n m:Int} (ho:o.op=.buildSlice 51 2 #[(0,x),(1,y)]) (hx:a.eval x=.int .i64 n) (hy:a.eval y=.int .i64 m) :
  (execOp a.eval o).run prog w=.ok (.value (.slice (some ⟨w.heap.size,0,none⟩) 2 2)) (w.alloc (.cells #[.int .i64 n,.int .i64 m] 3)):=by
 have hb:(Instr.buildSlice 51 2 #[(0,.int .i64 n),(1,.int .i64 m)]).run prog w=.ok (.slice (some ⟨w.heap.size,0,none⟩) 2 2) (w.alloc (.cells #[.int .i64 n,.int .i64 m] 3)):=by simp[go_sem]
 simp only[execOp,ho,List.map_toArray,List.map_cons,List.map_nil,hx,hy];simp[Result.andThen,hb]
noncomputable def dg_regionC:Code:=zBn Tryz.f116.body 29
theorem zBK (a:Act) (sb so n c:Nat) (f x s:Nat) (R:List Int) (W w:World) (Q:Exit->Act->World->Prop) (hsz:a.tmps.size=93)
  (h9:a.eval (.tmp 9)=.int .i64 ((f:Nat):Int))
  (h4:a.eval (.tmp 4)=.slice (some ⟨sb,so,none⟩) (n+1) c)
  (h0c:∀ w,W.grownBy w none->w.cell? ⟨sb,so+0,none⟩=some (.int .i64 ((x:Nat):Int)))
  (hm:IntKind.i64.wrap (40*((f:Nat):Int))=((40*f:Nat):Int))
  (hs:IntKind.i64.wrap (((x:Nat):Int)-((40*f:Nat):Int))=((s:Nat):Int))
  (hR:∀ w,W.grownBy w none->Ints w (.slice (subA (some ⟨sb,so,none⟩) 1 c) n (c-1)) R)
  (hRl:R.length<=1000000)
  (hw:W.grownBy { w with drawn:=w.drawn+1 } none)
  (hQ:∀ us w' v,W.grownBy w' none->Ints w' v ((f:Int) ::(s:Int) :: R)->Q .normal (((fill a [78,79,80,81,82,83,84,85,86,87] us).put (some 88) v).put (some 10) v) w'):dg_regionC.wp prog Q a w:=by
 have hst:zA9 [isV (.int .i64 ((f:Nat):Int)),isV (.slice (some ⟨sb,so,none⟩) (n+1) c),isV (.pointer (some ⟨sb,so+0,none⟩)),isV (.int .i64 ((x:Nat):Int)),isV (.int .i64 ((f:Nat):Int)),isV (.int .i64 ((40*f:Nat):Int)),isV (.int .i64 ((s:Nat):Int)),isOI [(f:Int),(s:Int)] W.heap.size,isV (.slice (some ⟨sb,so,none⟩) (n+1) c),isV (.slice (subA (some ⟨sb,so,none⟩) 1 c) n (c-1))]:=⟨zAj _,zAj _,zAj _,zAj _,zAj _,zAj _,zAj _,zHe _ _,zAj _,zAj _,trivial⟩
 conv=>arg 2;whnf
 refine zAG 10 [78,79,80,81,82,83,84,85,86,87] (fun w'=>W.grownBy w' none) (fun w w'=>w.grownBy w' none) (flF [isV (.int .i64 ((f:Nat):Int)),isV (.slice (some ⟨sb,so,none⟩) (n+1) c),isV (.pointer (some ⟨sb,so+0,none⟩)),isV (.int .i64 ((x:Nat):Int)),isV (.int .i64 ((f:Nat):Int)),isV (.int .i64 ((40*f:Nat):Int)),isV (.int .i64 ((s:Nat):Int)),isOI [(f:Int),(s:Int)] W.heap.size,isV (.slice (some ⟨sb,so,none⟩) (n+1) c),isV (.slice (subA (some ⟨sb,so,none⟩) 1 c) n (c-1))]) (by kernel_rfl) (by kernel_rfl) (fun _ _ h k=>zAb k h) (fun j x w w' hg h=>zA3 hst j x w w' hg h) hw ?_ ?_
 ·refine⟨?_,?_,?_,?_,?_,?_,?_,?_,?_,?_,trivial⟩
  ·exact zAg (fun us w hC hd=>zAf rfl) (fun us w hC hd=>⟨_,w,zAz rfl ((fill_old (by rfl)).trans h9),zAa _ _,rfl⟩)
  ·exact zAg (fun us w hC hd=>zAf rfl) (fun us w hC hd=>⟨_,w,zAz rfl ((fill_old (by rfl)).trans h4),zAa _ _,rfl⟩)
  ·exact zAg (fun us w hC hd=>zAf rfl) (fun us w hC hd=>⟨_,w,zEt rfl ((fill_tmp (by rfl) (by rw[hsz];decide)).trans (hd 1 (by decide))) rfl (idxI w sb so (n+1) c 0 (by omega)),zAa _ _,rfl⟩)
  ·exact zAg (fun us w hC hd=>zAf rfl) (fun us w hC hd=>⟨_,w,zAQ rfl ((fill_tmp (by rfl) (by rw[hsz];decide)).trans (hd 2 (by decide))) (zGf (h0c w hC)),zAa _ _,rfl⟩)
  ·exact zAg (fun us w hC hd=>zAf rfl) (fun us w hC hd=>⟨_,w,zAz rfl ((fill_old (by rfl)).trans h9),zAa _ _,rfl⟩)
  ·exact zAg (fun us w hC hd=>zAf rfl) (fun us w hC hd=>⟨_,w,(zDY rfl rfl ((fill_tmp (by rfl) (by rw[hsz];decide)).trans (hd 4 (by decide)))).trans (by rw[hm]),zAa _ _,rfl⟩)
  ·exact zAg (fun us w hC hd=>zAf rfl) (fun us w hC hd=>⟨_,w,(zDQ rfl ((fill_tmp (by rfl) (by rw[hsz];decide)).trans (hd 3 (by decide))) ((fill_tmp (by rfl) (by rw[hsz];decide)).trans (hd 5 (by decide)))).trans (by rw[hs]),zAa _ _,rfl⟩)
  ·exact zAg (fun us w hC hd=>zAf rfl) (fun us w hC hd=>⟨_,_,zKB rfl ((fill_tmp (by rfl) (by rw[hsz];decide)).trans (hd 0 (by decide))) ((fill_tmp (by rfl) (by rw[hsz];decide)).trans (hd 6 (by decide))),World.grownBy_alloc _ _ _,ownsRow_lit (alloc_at w _) hC.size (by simp)⟩)
  ·exact zAg (fun us w hC hd=>zAf rfl) (fun us w hC hd=>⟨_,w,zAz rfl ((fill_old (by rfl)).trans h4),zAa _ _,rfl⟩)
  ·exact zAg (fun us w hC hd=>zAf rfl) (fun us w hC hd=>⟨_,w,zFM rfl ((fill_tmp (by rfl) (by rw[hsz];decide)).trans (hd 8 (by decide))) rfl (by simp[go_sem]),zAa _ _,rfl⟩)
 ·intro us w' hC' hd;have ho:=hd 7 (by decide);have hv:us 87=.slice (subA (some ⟨sb,so,none⟩) 1 c) n (c-1):=hd 9 (by decide);refine zDg (by rfl) (.tmp 85) (.tmp 87) 51 (by rfl) W.heap.size 3 (.int .i64 0) 8 underlying51 (by kernel_rfl) rfl (by decide) (us 85) 2 (cellsI [(f:Int),(s:Int)]) (fill_tmp (by rfl) (by rw[hsz];decide)) ho _ R ((fill_tmp (by rfl) (by rw[hsz];decide)).trans hv) (hR w' hC') (by unfold subA;split <;>(intro x y e;cases e)) (by omega) hC'.size ?_;intro v' w3 ho3 hg3;have HG4:=zAR hC' ho (Nat.le_refl _) hg3;have HI5:Ints w3 v' ((f:Int) ::(s:Int) :: R):=Ints.own (l:=(f:Int) ::(s:Int) :: R) (by simpa [cellsI]using ho3);exact wpList_last rfl (assign_val rfl (show(Act.put _ (some 88) v').tmps.getD 88 undef=v' from zLv (by rw[zJr,hsz];decide))) (hQ us w3 v' HG4 HI5)
namespace Od
def numOf (p:List Nat):Except Nat Int:=match part p with|some n=>.ok n|none=>.error 4
def gat:List (Except Nat Int)->Except Nat (List Int)
 |[]=>.ok []
 |.error k :: _=>.error k
 |.ok n :: r=>match gat r with | .error k=>.error k | .ok l=>.ok (n :: l)
theorem gat_ok:∀ l:List Int,gat (l.map .ok)=.ok l
 |[]=>rfl
 |n :: r=>by rw[List.map_cons,gat,gat_ok r]
theorem gat_err:∀ (l:List Int) (k:Nat) (t:List (Except Nat Int)),gat (l.map .ok ++ .error k :: t)=.error k
 |[],k,t=>rfl
 |n :: r,k,t=>by rw[List.map_cons,List.cons_append,gat,gat_err r]
theorem gat_arcs:∀ ps:List (List Nat),gat (ps.map numOf)=match arcs ps with|none=>.error 4|some a=>.ok a
 |[]=>rfl
 |p :: r=>by
  rw[List.map_cons,arcs,numOf];cases part p with
  |none=>rfl
  |some n =>
   simp only[];rw[gat,gat_arcs r];cases arcs r <;> rfl
theorem right_take (a:List Int):right (a.take 17)=right a:=by
 rcases Nat.lt_or_ge 17 a.length with h|h
 ·have h1:right a=false:=by
   rw[<-Bool.not_eq_true];intro e;have:=((right_iff a).1 e).1.2.1;omega
  have h2:right (a.take 17)=false:=by
   rw[<-Bool.not_eq_true];intro e;have:=((right_iff _).1 e).1.2.1;rw[List.length_take]at this;omega
  rw[h1,h2]
 ·rw[List.take_of_length_le h]
theorem take_right {a:List Int} (h:right a=true):a.take 17=a:=List.take_of_length_le (by have:=((right_iff a).1 h).1.2.1;omega)
theorem parse_gat (s:List Nat):parse s=match gat ((split s).map numOf)with | .error k=>.error k | .ok a=>if right (a.take 17)=true then .ok (a.take 17)else .error 1:=by
 rw[parse,gat_arcs];cases arcs (split s)with
 |none=>rfl
 |some a =>
  simp only[];rw[right_take];by_cases h:right a=true
  ·rw[if_pos h,if_pos h,take_right h]
  ·rw[if_neg h,if_neg h]
end Od
theorem zCT:∀ (l:List UInt8) (acc:List Nat),
  (Lib.indexByte l 46=-1/\Od.splitA acc (l.map (·.toNat))=[acc++l.map (·.toNat)]) ∨
  ∃ k:Nat,Lib.indexByte l 46=k/\k<l.length/\Od.splitA acc (l.map (·.toNat))=(acc++(l.take k).map (·.toNat)) :: Od.splitA [] ((l.drop (k+1)).map (·.toNat))
 |[],acc=>.inl ⟨rfl,by simp[Od.splitA]⟩
 |b :: r,acc=>by
  by_cases hb:b=46
  ·subst hb;refine .inr ⟨0,by simp[Lib.indexByte],by simp,?_⟩;rw[List.map_cons,Od.splitA,if_pos (by decide)];simp
  ·have hb2:b.toNat≠46:=fun e=>hb (by rw[<-UInt8.toNat_inj,e];rfl)
   have hb3:(b==46)=false:=by simp[hb]
   rcases zCT r (acc++[b.toNat])with⟨h1,h2⟩|⟨k,h1,h2,h3⟩
   ·refine .inl ⟨by rw[Lib.indexByte,hb3,h1];simp,?_⟩;rw[List.map_cons,Od.splitA,if_neg hb2,h2];simp
   ·refine .inr ⟨k+1,?_,by simp;omega,?_⟩
    ·rw[Lib.indexByte,hb3,h1];have:((k:Int) == -1)=false:=by rw[beq_eq_false_iff_ne];omega
     rw[this];simp
    ·rw[List.map_cons,Od.splitA,if_neg hb2,h3];simp
theorem zFL (t:ByteArray) :
  (Lib.indexByte t.data.toList 46=-1/\Od.split (strL t)=[strL t]) ∨
  ∃ k:Nat,Lib.indexByte t.data.toList 46=k/\k<t.size/\t.extract 0 k=strOf ((strL t).take k)/\Od.split (strL t)=(strL t).take k :: Od.split (strL (t.extract (k+1) t.size)):=by
 have hsz:t.data.toList.length=t.size:=by rw[Array.length_toList];rfl
 rcases zCT t.data.toList []with⟨h1,h2⟩|⟨k,h1,h2,h3⟩
 ·exact .inl ⟨h1,by simpa [Od.split,strL]using h2⟩
 ·refine .inr ⟨k,h1,by omega,?_,?_⟩
  ·rw[zCi];simp[seg]
  ·rw[Od.split];have:strL t=t.data.toList.map (·.toNat):=rfl;rw[this,h3,zCi,zAw]
   ·rw[<-zAx t,zLe,strL];simp[Od.split]
   ·intro x hx;exact strL_lt t x (List.mem_of_mem_drop (List.mem_of_mem_take hx))
namespace Od
def numB (most:Nat) (p:List Nat):Except Nat Int :=
 if ¬ p.getD (p.length-1) 0<128 then .error 2 else if p.getD 0 0=128 then .error 4 else if most<sval p then .error 1 else .ok ((sval p:Nat):Int)
def fst (l:List Nat):Nat:=match piece l with
 |none=>l.length
 |some (p,_)=>p.length
def seqs:Nat->Nat->List Nat->List (Except Nat Int)
 |_,_,[]=>[]
 |0,_,_ :: _=>[]
 |f+1,most,c :: l=>numB most ((c :: l).take (fst (c :: l))) :: seqs f 2147483647 ((c :: l).drop (fst (c :: l)))
theorem piece_parts:∀ (l:List Nat) {p t:List Nat},piece l=some (p,t)->∃ h d,p=h++[d]/\l=p++t/\(∀ c∈h,¬ c<128)/\d<128
 |[],p,t,h=>by cases h
 |c :: r,p,t,h=>by
  rw[piece]at h;split at h
  ·rename_i hc
   cases h
   exact⟨[],c,rfl,rfl,by simp,hc⟩
  ·rename_i hc
   split at h
   ·cases h
   ·rename_i p' t' hp
    cases h
    obtain⟨h',d,rfl,rfl,h3,h4⟩:=piece_parts r hp;refine⟨c :: h',d,rfl,rfl,fun x hx=>?_,h4⟩;rcases List.mem_cons.1 hx with e|e
    ·rw[e];exact hc
    ·exact h3 x e
theorem piece_none:∀ (l:List Nat),piece l=none->∀ c∈l,¬ c<128
 |[],_,c,hc=>by cases hc
 |x :: r,h,c,hc=>by
  rw[piece]at h;split at h
  ·cases h
  ·rename_i hx
   split at h
   ·rename_i hp
    rcases List.mem_cons.1 hc with e|e
    ·rw[e];exact hx
    ·exact piece_none r hp c e
   ·cases h
theorem getD_mem {l:List Nat} {j:Nat} (h:j<l.length):l.getD j 0∈l:=by
 rw[List.getD_eq_getElem?_getD,List.getElem?_eq_getElem h];exact List.getElem_mem h
theorem fst_facts {l:List Nat} (h0:0<l.length):0<fst l/\fst l<=l.length/\(∀ j,j+1<fst l->¬ l.getD j 0<128)/\((l.getD (fst l-1) 0<128/\∃ p t,piece l=some (p,t)/\p=l.take (fst l)/\t=l.drop (fst l))∨(¬ l.getD (fst l-1) 0<128/\piece l=none/\fst l=l.length/\∀ j,j<l.length->¬ l.getD j 0<128)):=by
 cases hp:piece l with
 |none =>
  have hf:fst l=l.length:=by unfold fst;rw[hp]
  have ha:∀ j,j<l.length->¬ l.getD j 0<128:=fun j hj=>piece_none l hp _ (getD_mem hj)
  rw[hf];exact⟨h0,Nat.le_refl _,fun j hj=>ha j (by omega),.inr ⟨ha _ (by omega),rfl,rfl,ha⟩⟩
 |some q =>
  obtain⟨p,t⟩:=q;have hf:fst l=p.length:=by unfold fst;rw[hp]
  obtain⟨h,d,hpe,hre,hlo,hhi⟩:=piece_parts _ hp;have hpl:p.length=h.length+1:=by rw[hpe,List.length_append];rfl
  rw[hf];refine⟨by omega,by rw[hre,List.length_append];omega,fun j hj=>?_,.inl ⟨?_,p,t,rfl,by rw[hre,List.take_left],by rw[hre,List.drop_left]⟩⟩
  ·have e:l.getD j 0=h.getD j 0:=by
    rw[hre,hpe,List.getD_eq_getElem?_getD,List.getElem?_append_left (by rw[List.length_append];omega),List.getElem?_append_left (by omega),List.getD_eq_getElem?_getD]
   rw[e];exact hlo _ (getD_mem (by omega))
  ·have e:l.getD (p.length-1) 0=d:=by
    rw[hpl,Nat.add_sub_cancel,hre,hpe,List.getD_eq_getElem?_getD,List.getElem?_append_left (by rw[List.length_append];simp),List.getElem?_append_right (Nat.le_refl _)];simp
   rw[e];exact hhi
theorem head_getD (p:List Nat) (h:0<p.length):(p.head?=some 128)↔p.getD 0 0=128:=by
 cases p with
 |nil=>simp at h
 |cons x r=>simp
theorem seqs_nums:∀ (f most:Nat) (l:List Nat),l.length<=f->gat (seqs f most l)=(match nums f most l with
  |.error k=>.error k
  |.ok ns=>.ok (ns.map fun(m:Nat)=>(m:Int)))
 |0,most,[],_=>rfl
 |f+1,most,[],_=>rfl
 |0,most,c :: l,h=>by simp at h
 |f+1,most,c :: l,h=>by
  obtain⟨h0,h1,_,h3⟩:=fst_facts (l:=c :: l) (by simp);have htl:((c :: l).take (fst (c :: l))).length=fst (c :: l):=by rw[List.length_take];omega
  have hlast:((c :: l).take (fst (c :: l))).getD (fst (c :: l)-1) 0=(c :: l).getD (fst (c :: l)-1) 0:=by
   rw[List.getD_eq_getElem?_getD,List.getElem?_take_of_lt (by omega),<-List.getD_eq_getElem?_getD]
  rw[seqs,nums];rcases h3 with⟨h4,p,t,hp,hpe,hte⟩|⟨h4,hp,_⟩
  ·rw[hp];have hpl:0<p.length:=by rw[hpe,htl];exact h0
   have hp4:p.getD (p.length-1) 0<128:=by rw[hpe,htl,hlast];exact h4
   have htf:t.length<=f:=by rw[hte,List.length_drop];simp at h ⊢;omega
   rw[<-hpe,<-hte];have ih:=seqs_nums f 2147483647 t htf;unfold numB;rw[if_neg (fun h=>h hp4)];simp only[];by_cases h5:p.getD 0 0=128
   ·rw[if_pos h5,if_pos ((head_getD p hpl).2 h5)];rfl
   ·rw[if_neg h5,if_neg (fun e=>h5 ((head_getD p hpl).1 e))];by_cases h6:most<sval p
    ·rw[if_pos h6,if_pos h6];rfl
    ·rw[if_neg h6,if_neg h6,gat,ih];cases nums f 2147483647 t <;> rfl
  ·rw[hp];unfold numB;rw[if_pos (by rw[htl,hlast];exact h4)];rfl
end Od
namespace Od
theorem sval_take (l:List Nat) (j:Nat) (h:j<l.length):sval (l.take (j+1))=sval (l.take j)*128+l.getD j 0%128:=by
 rw[List.take_succ_eq_append_getElem h,sval_snoc,List.getD_eq_getElem?_getD,List.getElem?_eq_getElem h];rfl
def mostAt (k:Nat):Nat:=if k=0 then 2147483727 else 2147483647
structure GS (b:List Nat) (k:Nat) (ns:List Nat):Prop where
 le:k<=b.length
 few:ns.length<=k
 any:0<k->ns≠[]
 lim:∀ n∈ns,n<=2147483727
 now:∃ f,(b.drop k).length<=f/\nums b.length 2147483727 b=(match nums f (mostAt k) (b.drop k)with | .error e=>.error e | .ok r=>.ok (ns++r))
theorem GS.zero (b:List Nat):GS b 0 []:=⟨Nat.zero_le _,Nat.le_refl _,fun h=>absurd h (Nat.lt_irrefl _),fun _ h=>by simp at h,b.length,by simp,by
 simp only[mostAt,if_pos,List.drop_zero,List.nil_append];cases nums b.length 2147483727 b <;> rfl⟩
theorem GS.fin {b:List Nat} {ns:List Nat} (h:GS b b.length ns):nums b.length 2147483727 b=.ok ns:=by
 obtain⟨f,_,h2⟩:=h.now;rw[h2,List.drop_length];cases f <;> simp[nums]
def nstep (g most:Nat) (l:List Nat):Except Nat (List Nat):=match piece l with
 |none=>.error 2
 |.some (p,t)=>if p.head?=.some 128 then .error 4 else if most<sval p then .error 1 else match nums g 2147483647 t with
  |.error k=>.error k
  |.ok r=>.ok (sval p :: r)
def behind (ns:List Nat):Except Nat (List Nat)->Except Nat (List Nat)
 |.error e=>.error e
 |.ok r=>.ok (ns++r)
theorem GS.at_ {b:List Nat} {k:Nat} {ns:List Nat} (h:GS b k ns) (hk:k<b.length):∃ g,nums b.length 2147483727 b=behind ns (nstep g (mostAt k) (b.drop k))/\(b.drop k).length<=g+1:=by
 obtain⟨f,h1,h2⟩:=h.now;have hl:(b.drop k).length=b.length-k:=List.length_drop;obtain⟨g,rfl⟩:∃ g,f=g+1:=⟨f-1,by omega⟩
 refine⟨g,?_,h1⟩;rw[h2];cases hd:b.drop k with
 |nil=>rw[hd]at hl;simp at hl;omega
 |cons c r =>
  rw[nums];unfold nstep behind;rfl
theorem GS.short {b:List Nat} {k:Nat} {ns:List Nat} (h:GS b k ns) (hk:k<b.length) (hno:∀ j,j<b.length-k->¬(b.drop k).getD j 0<128):nums b.length 2147483727 b=.error 2:=by
 obtain⟨g,hg,_⟩:=h.at_ hk;have hl:(b.drop k).length=b.length-k:=List.length_drop;have h0:0<(b.drop k).length:=by omega
 rcases(fst_facts h0).2.2.2 with⟨h1,_⟩|⟨_,hp,_⟩
 ·have:=(fst_facts h0).1;have:=(fst_facts h0).2.1;exact absurd h1 (hno _ (by omega))
 ·rw[hg];unfold nstep;rw[hp];rfl
theorem piece_at {l:List Nat} {q:Nat} (hq:q<l.length) (hlo:∀ j,j<q->¬ l.getD j 0<128) (hhi:l.getD q 0<128):piece l=some (l.take (q+1),l.drop (q+1)):=by
 have h1:=piece_of (l.take q) (l.getD q 0) (l.drop (q+1)) (fun c hc=>by
  obtain⟨j,hj,rfl⟩:=List.mem_iff_getElem.1 hc;have hjq:j<q:=by rw[List.length_take]at hj;omega
  have:=hlo j hjq;rw[List.getD_eq_getElem?_getD,List.getElem?_eq_getElem (by omega)]at this;rw[List.getElem_take];exact Nat.le_of_not_lt this) hhi
 have e:l.take q++[l.getD q 0]=l.take (q+1):=by
  rw[List.take_succ_eq_append_getElem hq,List.getD_eq_getElem?_getD,List.getElem?_eq_getElem hq];rfl
 rw[e,List.take_append_drop]at h1;exact h1
theorem GS.form {b:List Nat} {k q:Nat} {ns:List Nat} (h:GS b k ns) (hk:k+q<b.length) (hlo:∀ j,j<q->¬(b.drop k).getD j 0<128) (hhi:(b.drop k).getD q 0<128) (h4:(b.drop k).getD 0 0=128):nums b.length 2147483727 b=.error 4:=by
 obtain⟨g,hg,_⟩:=h.at_ (by omega);have hl:(b.drop k).length=b.length-k:=List.length_drop;rw[hg];unfold nstep;rw[piece_at (by omega) hlo hhi];have h5:((b.drop k).take (q+1)).head?=some 128:=by
  cases hd:b.drop k with
  |nil=>rw[hd]at hl;simp at hl;omega
  |cons c r=>rw[hd]at h4;simp at h4;simp[h4]
 simp only[];rw[if_pos h5];rfl
theorem GS.no_head {l:List Nat} {q:Nat} (h4:l.getD 0 0≠128):(l.take (q+1)).head?≠some 128:=by
 cases l with
 |nil=>simp
 |cons c r=>simpa using h4
theorem GS.range {b:List Nat} {k q:Nat} {ns:List Nat} (h:GS b k ns) (hk:k+q<b.length) (hlo:∀ j,j<q->¬(b.drop k).getD j 0<128) (hhi:(b.drop k).getD q 0<128) (h4:(b.drop k).getD 0 0≠128) (hm:mostAt k<sval ((b.drop k).take (q+1))):nums b.length 2147483727 b=.error 1:=by
 obtain⟨g,hg,_⟩:=h.at_ (by omega);have hl:(b.drop k).length=b.length-k:=List.length_drop;rw[hg];unfold nstep;rw[piece_at (by omega) hlo hhi];simp only[];rw[if_neg (GS.no_head h4),if_pos hm];rfl
theorem GS.next {b:List Nat} {k q:Nat} {ns:List Nat} (h:GS b k ns) (hk:k+q<b.length) (hlo:∀ j,j<q->¬(b.drop k).getD j 0<128) (hhi:(b.drop k).getD q 0<128) (h4:(b.drop k).getD 0 0≠128) (hm:sval ((b.drop k).take (q+1))<=mostAt k):GS b (k+q+1) (ns++[sval ((b.drop k).take (q+1))]):=by
 obtain⟨g,hg,hgl⟩:=h.at_ (by omega);have hl:(b.drop k).length=b.length-k:=List.length_drop;have hm2:mostAt k<=2147483727:=by unfold mostAt;split <;> omega
 refine⟨by omega,by have:=h.few;simp;omega,fun _=>by simp,fun n hn=>?_,g,by rw[List.length_drop];omega,?_⟩
 ·rcases List.mem_append.1 hn with hn|hn
  ·exact h.lim n hn
  ·rw[List.mem_singleton]at hn;omega
 rw[hg];unfold nstep;rw[piece_at (by omega) hlo hhi];simp only[];rw[if_neg (GS.no_head h4),if_neg (by omega),List.drop_drop,show k+(q+1)=k+q+1 by omega,show mostAt (k+q+1)=2147483647 from if_neg (by omega)];cases nums g 2147483647 (b.drop (k+q+1))with
 |error e=>rfl
 |ok r=>simp[behind]
structure GN (p:List Nat) (most j n:Nat):Prop where
 lim:n<=281474976710656
 same:n<=most->n=sval (p.take j)
 over:most<n->most<sval (p.take j)
theorem GN.zero (p:List Nat) (most:Nat):GN p most 0 0:=⟨by omega,fun _=>by simp[sval],fun h=>absurd h (Nat.not_lt_zero _)⟩
theorem GN.add {p:List Nat} {most j n:Nat} (h:GN p most j n) (hj:j<p.length) (hm:most<=2147483727) (hn:n<=most):GN p most (j+1) (n*128+p.getD j 0%128):=by
 have e:=h.same hn;have hs:=sval_take p j hj;have:p.getD j 0%128<128:=Nat.mod_lt _ (by decide);exact⟨by omega,fun _=>by rw[hs,<-e],fun h2=>by rw[hs,<-e];exact h2⟩
theorem GN.stay {p:List Nat} {most j n:Nat} (h:GN p most j n) (hj:j<p.length) (hn:most<n):GN p most (j+1) n:=by
 have e:=h.over hn;have hs:=sval_take p j hj;exact⟨h.lim,fun h2=>by omega,fun _=>by omega⟩
theorem get_err {b:List Nat} {k:Nat} (h:nums b.length 2147483727 b=.error k):get b=.error k:=by
 unfold get;rw[h]
theorem get_ok {b:List Nat} {n:Nat} {r:List Nat} (h:nums b.length 2147483727 b=.ok (n :: r)):get b=if right ((firstOf n:Nat) ::((n-40*firstOf n:Nat):Int) :: r.map fun(m:Nat)=>(m:Int))=true then .ok ((firstOf n:Nat) ::((n-40*firstOf n:Nat):Int) :: r.map fun(m:Nat)=>(m:Int))else .error 1:=by
 unfold get;rw[h]
end Od
theorem zFe:∀ (f most:Nat) (l:List Nat) {k:Nat},l.length<=f->Od.nums f most l=.error k->k≠0
 |f,_,[],_,_,h=>by cases f <;> simp[Od.nums]at h
 |0,_,_ :: _,_,hf,_=>by simp at hf
 |f+1,most,c :: l,k,hf,h=>by
  rw[Od.nums]at h;cases hp:Od.piece (c :: l)with
  |none=>rw[hp]at h;have:=Except.error.inj h;omega
  |some p =>
   obtain⟨p,t⟩:=p;rw[hp]at h;have h:(if p.head?=some 128 then(Except.error 4:Except Nat (List Nat))else if most<Od.sval p then .error 1 else match Od.nums f 2147483647 t with
    |.error k=>.error k
    |.ok r=>.ok (Od.sval p :: r))=.error k:=h
   obtain⟨hh,d,hpe,hle,_⟩:=Od.piece_parts _ hp;have hl2:=congrArg List.length hle;rw[List.length_append,hpe,List.length_append,List.length_cons]at hl2;simp only[List.length_singleton,List.length_cons]at hl2 hf;split at h
   ·have:=Except.error.inj h;omega
   ·split at h
    ·have:=Except.error.inj h;omega
    ·cases hn:Od.nums f 2147483647 t with
     |error e=>rw[hn]at h;obtain rfl:=Except.error.inj h;exact zFe f _ t (by omega) hn
     |ok r=>rw[hn]at h;exact absurd h (by simp)
theorem zEl {l:List Nat} {k:Nat} (h:Od.get l=.error k):k≠0:=by
 unfold Od.get at h;cases hn:Od.nums l.length 2147483727 l with
 |error e=>rw[hn]at h;obtain rfl:=Except.error.inj h;exact zFe _ _ l (Nat.le_refl _) hn
 |ok r =>
  rw[hn]at h;cases r with
  |nil=>have:=Except.error.inj h;omega
  |cons n r =>
   revert h
   simp only;split
   ·intro h;exact absurd h (by simp)
   ·intro h;have:=Except.error.inj h;omega
def errNat {α:Type}:Except Nat α->Nat
 |.ok _=>0
 |.error k=>k
def DgO (R:Except Nat (List Int)) (w w':World) (e:Ending):Prop:=w.grownBy w' none/\∃ u,e=.returned (.tuple #[u,.int .i64 (errNat R:Nat)])/\∀ l,R=.ok l->Ints w' u l
theorem DgO.no {R:Except Nat (List Int)} {k:Nat} {w w':World} (h:R=.error k) (hg:w.grownBy w' none):DgO R w w' (.returned (.tuple #[.slice none 0 0,.int .i64 (k:Nat)])):=by
 subst h;exact⟨hg,_,rfl,fun l h=>by cases h⟩
theorem zL6 (x:Nat) (hx:x<256):(x:Int).tmod 128=((x%128:Nat):Int):=by
 rw[Int.tmod_eq_emod_of_nonneg (by omega)];rfl
theorem zK0 (m y:Nat) (hm:m<=2147483727) (hy:y<128):IntKind.i64.wrap ((m:Int)*128)=((m*128:Nat):Int)/\IntKind.i64.wrap (((m*128:Nat):Int)+(y:Int))=((m*128+y:Nat):Int)/\IntKind.i64.wrap (y:Int)=(y:Int):=by
 simp only[IntKind.wrap,IntKind.bits,IntKind.signed];simp;omega
theorem zHp (v:Value) (b:List Nat) (w:World) (hB:Bytes w v b) (hl:b.length<=100000) :
  Calls prog 116 #[v] w fun e w'=>DgO (Od.get b) w w' e:=by
 obtain⟨hlt,va,sb,so,vc,rfl,hvc,ha,hcell⟩:=hB;rcases Nat.eq_zero_or_pos b.length with hz|hpos
 ·have hbn:b=[]:=List.length_eq_zero_iff.1 hz;subst hbn;have HR:Hid (Od.get []=.error 2):=hid rfl;clear ha hcell;go_enter func116,ntmps116
  go_wp2
  go_ret2
  exact DgO.no HR.out (zAa _ _)
 obtain⟨rfl,hsb⟩:=ha hpos;obtain⟨n,hn⟩:∃ n,n=b.length:=⟨_,rfl⟩
 have HNb:=hid hn;have HG0:=hid (Od.GS.zero b);have HC:Hid (∀ W,w.grownBy W none->∀ j,j<n->W.cell? ⟨sb,so+j,none⟩=some (.int .u8 ((b.getD j 0:Nat):Int))):=hid (fun W hW j hj=>by
  rw[World.cell?_of_block (hW.block sb hsb (by simp))];exact hcell j (by omega))
 have HLt:Hid (∀ j,j<n->b.getD j 0<256):=hid (fun j hj=>hlt _ (Od.getD_mem (by omega)));have HD:Hid (∀ k j,(b.drop k).getD j 0=b.getD (k+j) 0):=hid (fun k j=>by rw[List.getD_eq_getElem?_getD,List.getElem?_drop,<-List.getD_eq_getElem?_getD]);rw[<-hn]at hvc hl hpos ⊢;have F0:Hid (FrI w (w.alloc (.cells #[] 3)) (.slice (some ⟨w.heap.size,0,none⟩) 0 0) (([]:List Nat).map fun(m:Nat)=>(m:Int))):=hid ⟨World.grownBy_alloc _ _ _,ownsRow_lit (alloc_at w _) (Nat.le_refl _) (by simp)⟩;obtain⟨R,hR⟩:∃ R,R=Od.get b:=⟨_,rfl⟩
 have HR:=hid hR;rw[<-hR];have hnz:((n:Int)==0)=false:=by simp;omega
 have hP:Hid (0<n):=hid hpos;clear hlt hcell ha hn hR hpos;go_enter func116,ntmps116
 go_wp2
 go_loopw [4,5] (fun nv at_ wr=>∃ (k:Nat) (ns:List Nat),at_=.int .i64 k/\FrI w wr nv (ns.map fun(m:Nat)=>(m:Int))/\Od.GS b k ns) (fun _ at_ _=>n-(intOf at_).toNat)
 case atStart=>exact⟨0,[],rfl,F0.out,HG0.out⟩
 case round =>
  obtain⟨k,ns,rfl,hF,hG⟩:=hrel;have HF:=hid hF;have HG:=hid hG;have hkn:k<=n:=by rw[HNb.out];exact hG.le
  have HNs:Hid (ns.length<=k):=hid hG.few;clear hF hG;by_cases hk:k<n
  ·go_wp2
   go_loopw [6] (fun e_ wr2=>∃ q:Nat,e_=.int .i64 ((k+q:Nat):Int)/\k+q<=n/\wr2=wr/\∀ j,j<q->¬(b.drop k).getD j 0<128) (fun e_ _=>n-(intOf e_).toNat)
   case atStart=>exact⟨0,rfl,hkn,rfl,fun j hj=>absurd hj (Nat.not_lt_zero _)⟩
   case round =>
    obtain⟨q,rfl,hq,rfl,hlo⟩:=hrel;have HLo:=hid hlo;clear hlo;by_cases hqn:k+q<n
    ·have hc:=HC.out _ HF.out.grown (k+q) hqn;have hc256:=HLt.out (k+q) hqn;have HDq:=hid (HD.out k q);by_cases h128:128<=b.getD (k+q) 0
     ·have HLo2:Hid (∀ j,j<q+1->¬(b.drop k).getD j 0<128):=hid (fun j hj=>by
       by_cases e:j=q
       ·subst e;rw[HDq.out];omega
       ·exact HLo.out j (by omega))
      obtain⟨c,hcc⟩:∃ c,c=b.getD (k+q) 0:=⟨_,rfl⟩
      rw[<-hcc]at hc hc256 h128;clear hcc HDq;obtain⟨d,hd⟩:∃ d,d=k+q:=⟨_,rfl⟩
      have HDd:=hid hd;rw[<-hd]at hc hqn hq ⊢;have hci:(128:Int)<=(c:Int):=by omega
      clear hd;go_wp2
      go_roundw
      case rel=>exact⟨q+1,by rw[HDd.out];go_num,by rw[HDd.out]at hqn;omega,(by first|rfl|trivial),HLo2.out⟩
      case measure=>simp[intOf];omega
     ·have HHi:Hid ((b.drop k).getD q 0<128):=hid (by rw[HDq.out];omega);have HQ:Hid (k+q<b.length):=hid (by rw[<-HNb.out];exact hqn);have hck:=HC.out _ HF.out.grown k hk;have hck256:=HLt.out k hk;have HDk:=hid (HD.out k 0);have hdne:((k+q:Nat):Int)≠(n:Int):=by omega
      obtain⟨c,hcc⟩:∃ c,c=b.getD (k+q) 0:=⟨_,rfl⟩
      rw[<-hcc]at hc hc256 h128;have hci:(c:Int)<128:=by omega
      obtain⟨d,hd⟩:∃ d,d=k+q:=⟨_,rfl⟩
      have HDd:=hid hd;rw[<-hd]at hc hqn hq hdne ⊢;clear hcc HDq hd;by_cases h4:b.getD k 0=128
      ·have HE:Hid (R=.error 4):=hid (by rw[HR.out];exact Od.get_err (HG.out.form HQ.out HLo.out HHi.out (by rw[HDk.out];exact h4)));rw[h4]at hck;have hx:((128:Nat):Int)=128:=rfl;rw[hx]at hck;clear h4 hck256;go_wp2
       go_ret2
       exact DgO.no HE.out HF.out.grown
      ·have H4:Hid ((b.drop k).getD 0 0≠128):=hid (by rw[HDk.out];exact h4);obtain⟨c0,hc0⟩:∃ c0,c0=b.getD k 0:=⟨_,rfl⟩
       rw[<-hc0]at hck hck256 h4;have hci4:((c0:Int)==128)=false:=by simp;omega
       clear hc0 h4 HDk;obtain⟨p,hp⟩:∃ p,p=(b.drop k).take (q+1):=⟨_,rfl⟩
       have HPl:Hid (p.length=q+1):=hid (by rw[hp,List.length_take,List.length_drop];have:=HQ.out;omega);have HPc:Hid (∀ W,w.grownBy W none->∀ j,j<=q->W.cell? ⟨sb,so+(k+j),none⟩=some (.int .u8 ((p.getD j 0:Nat):Int))/\p.getD j 0<256):=hid (fun W hW j hj=>by
        have e:p.getD j 0=b.getD (k+j) 0:=by rw[hp,List.getD_eq_getElem?_getD,List.getElem?_take_of_lt (by omega),<-List.getD_eq_getElem?_getD,HD.out]
        have:=HQ.out;rw[e];exact⟨HC.out W hW (k+j) (by rw[HNb.out];omega),HLt.out _ (by rw[HNb.out];omega)⟩)
       have HPr:Hid (Od.mostAt k<Od.sval p->R=.error 1):=hid (fun h=>by rw[HR.out];exact Od.get_err (HG.out.range HQ.out HLo.out HHi.out H4.out (by rw[<-hp];exact h)));have HPn:Hid (Od.sval p<=Od.mostAt k->Od.GS b (k+q+1) (ns++[Od.sval p])):=hid (fun h=>by
        have:=HG.out.next HQ.out HLo.out HHi.out H4.out (by rw[<-hp];exact h);rw[<-hp]at this;exact this)
       have HZ:=hid (Od.GN.zero p (Od.mostAt k));have HQd:Hid (k+q<n):=hid (by rw[<-HDd.out];exact hqn);clear hp HLo HHi HQ H4 HR;rcases Nat.eq_zero_or_pos k with hk0|hk0
       ·have hM:Od.mostAt k=2147483727:=if_pos hk0;have hki:((k:Int)==0)=true:=by simp[hk0]
        rw[hM]at HPr HPn HZ;clear hM hk0;go_wp2
        go_loopw [5,8] (fun at_ n_ wr2=>∃ (j m:Nat),at_=.int .i64 ((k+j:Nat):Int)/\j<=q+1/\n_=.int .i64 (m:Int)/\wr2=wr/\Od.GN p 2147483727 j m) (fun at_ _ _=>n+1-(intOf at_).toNat)
        case atStart=>exact⟨0,0,rfl,by omega,rfl,rfl,HZ.out⟩
        case round =>
         obtain⟨j,m,rfl,hj,rfl,rfl,hGN⟩:=hrel;have HGN:=hid hGN;have hmlim:=hGN.lim;clear hGN;have hdj:=HDd.out;by_cases hjq:j<=q
         ·have hle:((k+j:Nat):Int)<=(d:Int):=by omega
          have hlt2:((k+j:Nat):Int)<(n:Int):=by omega
          obtain⟨hpc,hp256⟩:=HPc.out _ HF.out.grown j hjq;have HPd:Hid (p.getD j 0<256):=hid hp256;obtain⟨y,hy⟩:∃ y,y=p.getD j 0%128:=⟨_,rfl⟩
          have hy128:y<128:=by rw[hy];exact Nat.mod_lt _ (by decide)
          have hrem:=zL6 _ hp256;rw[<-hy]at hrem;have HAdd:Hid (m<=2147483727->Od.GN p 2147483727 (j+1) (m*128+y)):=hid (fun h=>by rw[hy];exact HGN.out.add (by rw[HPl.out];omega) (by omega) h);generalize p.getD j 0=c5 at *;obtain⟨d5,hd5⟩:∃ d5,d5=k+j:=⟨_,rfl⟩
          have HD5:=hid hd5;rw[<-hd5]at hle hlt2 hpc ⊢;clear hd5 hy hdj;by_cases hmM:m<=2147483727
          ·obtain⟨e1,e2,e3⟩:=zK0 m y (by omega) hy128;have hmi:(m:Int)<=2147483727:=by omega
           have HN2:=hid (HAdd.out hmM);go_wp2
           go_roundw
           case rel=>exact⟨j+1,m*128+y,by rw[HD5.out];go_num,by omega,by go_num,(by first|rfl|trivial),HN2.out⟩
           case measure=>simp[intOf];omega
          ·have hmi:¬(m:Int)<=2147483727:=by omega
           have HN2:Hid (Od.GN p 2147483727 (j+1) m):=hid (HGN.out.stay (by rw[HPl.out];omega) (by omega));go_wp2
           go_roundw
           case rel=>exact⟨j+1,m,by rw[HD5.out];go_num,by omega,rfl,(by first|rfl|trivial),HN2.out⟩
           case measure=>simp[intOf];omega
         ·obtain rfl:j=q+1:=by omega
          have htake:p.take (q+1)=p:=List.take_of_length_le (by rw[HPl.out];exact Nat.le_refl _);have hgt:¬((k+(q+1):Nat):Int)<=(d:Int):=by omega
          by_cases hmM:m<=2147483727
          ·have hsame:=HGN.out.same hmM;rw[htake]at hsame;have HGS:Hid (Od.GS b (k+q+1) (ns++[m])):=hid (by rw[hsame];exact HPn.out (by rw[<-hsame];exact hmM));have hmi:¬ 2147483727<(m:Int):=by omega
           have HNl:Hid (ns.length<=1000000):=hid (by have:=HNs.out;omega);obtain⟨d5,hd5⟩:∃ d5,d5=k+(q+1):=⟨_,rfl⟩
           have HD5:=hid hd5;rw[<-hd5]at hgt ⊢;clear hd5 hdj hsame htake HPn HPr HPc HZ;go_wp2_with (at_builtin;refine zAy (by rfl) (.tmp 66) (.tmp 68) 51 (by rfl) w.heap.size 3 (.int .i64 0) 8 underlying51 (by kernel_rfl) rfl (by decide) _ _ (cellsI (ns.map fun(m:Nat)=>(m:Int))) (by rfl) (HF.out.own.alloc _) ⟨_,0,none⟩ (.int .i64 (m:Int)) (by rfl) (cell_blk (alloc_at _ _) 0 rfl) rfl (by have:=HNl.out;simp;omega) (by have:=HF.out.le;rw[zAe];omega) ?_;intro v' w4 ho4 hg4;have F4:Hid (FrI w w4 v' ((ns++[m]).map fun(m:Nat)=>(m:Int))):=hid ((HF.out.alloc _).step (l':=(ns++[m]).map fun(m:Nat)=>(m:Int)) ho4 hg4 (by simp[cellsI]));clear ho4 hg4)
           go_roundw
           case rel=>exact⟨k+q+1,ns++[m],by rw[HD5.out];rfl,F4.out,HGS.out⟩
           case measure=>simp[intOf];have:=HD5.out;omega
          ·have hmi:2147483727<(m:Int):=by omega
           have HE:Hid (R=.error 1):=hid (HPr.out (by have:=HGN.out.over (by omega);rw[htake]at this;exact this));obtain⟨d5,hd5⟩:∃ d5,d5=k+(q+1):=⟨_,rfl⟩
           rw[<-hd5]at hgt ⊢;clear hd5 hdj htake HPn HPr HPc HZ;go_wp2
           go_ret2
           exact DgO.no HE.out HF.out.grown
       ·have hM:Od.mostAt k=2147483647:=if_neg (by omega);have hki:((k:Int)==0)=false:=by simp;omega
        rw[hM]at HPr HPn HZ;clear hM hk0;go_wp2
        go_loopw [5,8] (fun at_ n_ wr2=>∃ (j m:Nat),at_=.int .i64 ((k+j:Nat):Int)/\j<=q+1/\n_=.int .i64 (m:Int)/\wr2=wr/\Od.GN p 2147483647 j m) (fun at_ _ _=>n+1-(intOf at_).toNat)
        case atStart=>exact⟨0,0,rfl,by omega,rfl,rfl,HZ.out⟩
        case round =>
         obtain⟨j,m,rfl,hj,rfl,rfl,hGN⟩:=hrel;have HGN:=hid hGN;have hmlim:=hGN.lim;clear hGN;have hdj:=HDd.out;by_cases hjq:j<=q
         ·have hle:((k+j:Nat):Int)<=(d:Int):=by omega
          have hlt2:((k+j:Nat):Int)<(n:Int):=by omega
          obtain⟨hpc,hp256⟩:=HPc.out _ HF.out.grown j hjq;have HPd:Hid (p.getD j 0<256):=hid hp256;obtain⟨y,hy⟩:∃ y,y=p.getD j 0%128:=⟨_,rfl⟩
          have hy128:y<128:=by rw[hy];exact Nat.mod_lt _ (by decide)
          have hrem:=zL6 _ hp256;rw[<-hy]at hrem;have HAdd:Hid (m<=2147483647->Od.GN p 2147483647 (j+1) (m*128+y)):=hid (fun h=>by rw[hy];exact HGN.out.add (by rw[HPl.out];omega) (by omega) h);generalize p.getD j 0=c5 at *;obtain⟨d5,hd5⟩:∃ d5,d5=k+j:=⟨_,rfl⟩
          have HD5:=hid hd5;rw[<-hd5]at hle hlt2 hpc ⊢;clear hd5 hy hdj;by_cases hmM:m<=2147483647
          ·obtain⟨e1,e2,e3⟩:=zK0 m y (by omega) hy128;have hmi:(m:Int)<=2147483647:=by omega
           have HN2:=hid (HAdd.out hmM);go_wp2
           go_roundw
           case rel=>exact⟨j+1,m*128+y,by rw[HD5.out];go_num,by omega,by go_num,(by first|rfl|trivial),HN2.out⟩
           case measure=>simp[intOf];omega
          ·have hmi:¬(m:Int)<=2147483647:=by omega
           have HN2:Hid (Od.GN p 2147483647 (j+1) m):=hid (HGN.out.stay (by rw[HPl.out];omega) (by omega));go_wp2
           go_roundw
           case rel=>exact⟨j+1,m,by rw[HD5.out];go_num,by omega,rfl,(by first|rfl|trivial),HN2.out⟩
           case measure=>simp[intOf];omega
         ·obtain rfl:j=q+1:=by omega
          have htake:p.take (q+1)=p:=List.take_of_length_le (by rw[HPl.out];exact Nat.le_refl _);have hgt:¬((k+(q+1):Nat):Int)<=(d:Int):=by omega
          by_cases hmM:m<=2147483647
          ·have hsame:=HGN.out.same hmM;rw[htake]at hsame;have HGS:Hid (Od.GS b (k+q+1) (ns++[m])):=hid (by rw[hsame];exact HPn.out (by rw[<-hsame];exact hmM));have hmi:¬ 2147483647<(m:Int):=by omega
           have HNl:Hid (ns.length<=1000000):=hid (by have:=HNs.out;omega);obtain⟨d5,hd5⟩:∃ d5,d5=k+(q+1):=⟨_,rfl⟩
           have HD5:=hid hd5;rw[<-hd5]at hgt ⊢;clear hd5 hdj hsame htake HPn HPr HPc HZ;go_wp2_with (at_builtin;refine zAy (by rfl) (.tmp 66) (.tmp 68) 51 (by rfl) w.heap.size 3 (.int .i64 0) 8 underlying51 (by kernel_rfl) rfl (by decide) _ _ (cellsI (ns.map fun(m:Nat)=>(m:Int))) (by rfl) (HF.out.own.alloc _) ⟨_,0,none⟩ (.int .i64 (m:Int)) (by rfl) (cell_blk (alloc_at _ _) 0 rfl) rfl (by have:=HNl.out;simp;omega) (by have:=HF.out.le;rw[zAe];omega) ?_;intro v' w4 ho4 hg4;have F4:Hid (FrI w w4 v' ((ns++[m]).map fun(m:Nat)=>(m:Int))):=hid ((HF.out.alloc _).step (l':=(ns++[m]).map fun(m:Nat)=>(m:Int)) ho4 hg4 (by simp[cellsI]));clear ho4 hg4)
           go_roundw
           case rel=>exact⟨k+q+1,ns++[m],by rw[HD5.out];rfl,F4.out,HGS.out⟩
           case measure=>simp[intOf];have:=HD5.out;omega
          ·have hmi:2147483647<(m:Int):=by omega
           have HE:Hid (R=.error 1):=hid (HPr.out (by have:=HGN.out.over (by omega);rw[htake]at this;exact this));obtain⟨d5,hd5⟩:∃ d5,d5=k+(q+1):=⟨_,rfl⟩
           rw[<-hd5]at hgt ⊢;clear hd5 hdj htake HPn HPr HPc HZ;go_wp2
           go_ret2
           exact DgO.no HE.out HF.out.grown
    ·obtain rfl:n=k+q:=by omega
     have HE:Hid (R=.error 2):=hid (by
      rw[HR.out];exact Od.get_err (HG.out.short (by rw[<-HNb.out];exact hk) (fun j hj=>HLo.out j (by have:=HNb.out;omega))))
     clear hqn;obtain⟨d,hd⟩:∃ d,d=k+q:=⟨_,rfl⟩
     rw[<-hd]at *;clear hd;go_wp2
     go_ret2
     exact DgO.no HE.out HF.out.grown
  ·obtain rfl:k=n:=by omega
   clear hk hkn;have hnums:=HG.out;rw[HNb.out]at hnums;have hnums:=hnums.fin;cases ns with
   |nil=>exact absurd rfl (HG.out.any hP.out)
   |cons x r =>
    have hget:=Od.get_ok hnums;rw[<-HR.out]at hget;have hx:=HG.out.lim x (by simp);have HRl:Hid (r.length<=1000000):=hid (by have:=HNs.out;simp at this;omega);have hI:=HF.out.ints;obtain⟨a2,g2,o2,c2,rfl,hc2,ha2,hcell2⟩:=id hI;simp only[List.map_cons,List.length_cons,List.length_map]at hc2 ha2 hcell2 hI HF ⊢;obtain⟨rfl,hg2⟩:=ha2 (by omega);have hx0:=hcell2 0 (by omega);rw[List.getD_cons_zero]at hx0;have HX0:Hid (∀ W,wr.grownBy W none->W.cell? ⟨g2,o2+0,none⟩=some (.int .i64 (x:Int))):=hid (fun W hW=>by
     rw[World.cell?_of_block (hW.block g2 hg2 (by simp))];exact hx0)
    have HRr:Hid (∀ W,wr.grownBy W none->Ints W (.slice (subA (some ⟨g2,o2,none⟩) 1 c2) r.length (c2-1)) (r.map fun(m:Nat)=>(m:Int))):=hid (fun W hW=>by
     have:=(hI.grown hW).from 1 (by omega)
     simpa using this)
    have HFg:=hid HF.out.grown;rw[Nat.add_zero]at hx0;obtain⟨rl,hrl⟩:∃ rl,rl=r.length:=⟨_,rfl⟩
    rw[<-hrl]at hc2 HRr ⊢;clear hrl;clear hI ha2 hcell2 hnums HNs HF HG;rcases(show x<40∨(40<=x/\x<80)∨80<=x by omega)with hc|hc|hc
    ·have hfo:Od.firstOf x=0:=by unfold Od.firstOf;(repeat' split) <;> omega
     rw[hfo]at hget;obtain⟨s,hs⟩:∃ s,s=x-40*0:=⟨_,rfl⟩
     rw[<-hs]at hget;have hw1:IntKind.i64.wrap (40*((0:Nat):Int))=((40*0:Nat):Int):=rfl;have hw2:IntKind.i64.wrap ((x:Int)-((40*0:Nat):Int))=((s:Nat):Int):=by
      simp only[IntKind.wrap,IntKind.bits,IntKind.signed];simp;omega
     have HRt:Hid (∀ (v:Value) (W:World),Ints W v (((0:Nat):Int) ::(s:Int) :: r.map fun(m:Nat)=>(m:Int))->Calls prog 134 #[v] W fun e w'=>e=.returned (.bool (Od.right (((0:Nat):Int) ::(s:Int) :: r.map fun(m:Nat)=>(m:Int))))/\w'=W):=hid (fun v W h=>zBw v _ W h);have HW1:=hid hw1;have HW2:=hid hw2;have hi1:(x:Int)<40:=by omega
     clear hw1 hw2 hs hfo hc;obtain⟨L,hL⟩:∃ L,L=((0:Nat):Int) ::(s:Int) :: r.map fun(m:Nat)=>(m:Int):=⟨_,rfl⟩
     rw[<-hL]at hget HRt;have HGt:=hid hget;have HL:=hid hL;clear hget hL;by_cases hr:Od.right L=true
     ·have HE:Hid (R=.ok L):=hid (by rw[HGt.out,if_pos hr]);rw[hr]at HRt;clear hr;go_wp2
      refine zBK _ g2 o2 rl c2 0 x s _ wr _ _ rfl rfl rfl (fun W hW=>HX0.out W hW) HW1.out HW2.out (fun W hW=>HRr.out W hW) (by rw[List.length_map];exact HRl.out) ⟨rfl,rfl,rfl,Nat.le_refl _,fun _ _ _=>rfl⟩ (fun us w3 v3 hg3 hI3=>?_);simp only[zAA,zAN,Act.put,List.setIfInBounds_toArray,List.set_cons_succ,List.set_cons_zero];rw[<-HL.out]at hI3;have HI3:=hid hI3;have HG3:=hid (zAb HFg.out hg3);clear hI3 hg3;go_wp2_with (go_at_call 134;refine(HRt.out _ _ HI3.out).mono ?_;rintro e w4 ⟨rfl,rfl⟩)
      go_ret2
      rw[HE.out];exact⟨HG3.out,_,rfl,fun l h=>by cases h;exact HI3.out⟩
     ·have HE:Hid (R=.error 1):=hid (by rw[HGt.out,if_neg hr]);rw[Bool.not_eq_true]at hr;rw[hr]at HRt;clear hr;go_wp2
      refine zBK _ g2 o2 rl c2 0 x s _ wr _ _ rfl rfl rfl (fun W hW=>HX0.out W hW) HW1.out HW2.out (fun W hW=>HRr.out W hW) (by rw[List.length_map];exact HRl.out) ⟨rfl,rfl,rfl,Nat.le_refl _,fun _ _ _=>rfl⟩ (fun us w3 v3 hg3 hI3=>?_);simp only[zAA,zAN,Act.put,List.setIfInBounds_toArray,List.set_cons_succ,List.set_cons_zero];rw[<-HL.out]at hI3;have HI3:=hid hI3;have HG3:=hid (zAb HFg.out hg3);clear hI3 hg3;go_wp2_with (go_at_call 134;refine(HRt.out _ _ HI3.out).mono ?_;rintro e w4 ⟨rfl,rfl⟩)
      go_ret2
      exact DgO.no HE.out HG3.out
    ·have hfo:Od.firstOf x=1:=by unfold Od.firstOf;(repeat' split) <;> omega
     rw[hfo]at hget;obtain⟨s,hs⟩:∃ s,s=x-40*1:=⟨_,rfl⟩
     rw[<-hs]at hget;have hw1:IntKind.i64.wrap (40*((1:Nat):Int))=((40*1:Nat):Int):=rfl;have hw2:IntKind.i64.wrap ((x:Int)-((40*1:Nat):Int))=((s:Nat):Int):=by
      simp only[IntKind.wrap,IntKind.bits,IntKind.signed];simp;omega
     have HRt:Hid (∀ (v:Value) (W:World),Ints W v (((1:Nat):Int) ::(s:Int) :: r.map fun(m:Nat)=>(m:Int))->Calls prog 134 #[v] W fun e w'=>e=.returned (.bool (Od.right (((1:Nat):Int) ::(s:Int) :: r.map fun(m:Nat)=>(m:Int))))/\w'=W):=hid (fun v W h=>zBw v _ W h);have HW1:=hid hw1;have HW2:=hid hw2;have hi1:¬(x:Int)<40:=by omega
     have hi2:(x:Int)<80:=by omega
     clear hw1 hw2 hs hfo hc;obtain⟨L,hL⟩:∃ L,L=((1:Nat):Int) ::(s:Int) :: r.map fun(m:Nat)=>(m:Int):=⟨_,rfl⟩
     rw[<-hL]at hget HRt;have HGt:=hid hget;have HL:=hid hL;clear hget hL;by_cases hr:Od.right L=true
     ·have HE:Hid (R=.ok L):=hid (by rw[HGt.out,if_pos hr]);rw[hr]at HRt;clear hr;go_wp2
      refine zBK _ g2 o2 rl c2 1 x s _ wr _ _ rfl rfl rfl (fun W hW=>HX0.out W hW) HW1.out HW2.out (fun W hW=>HRr.out W hW) (by rw[List.length_map];exact HRl.out) ⟨rfl,rfl,rfl,Nat.le_refl _,fun _ _ _=>rfl⟩ (fun us w3 v3 hg3 hI3=>?_);simp only[zAA,zAN,Act.put,List.setIfInBounds_toArray,List.set_cons_succ,List.set_cons_zero];rw[<-HL.out]at hI3;have HI3:=hid hI3;have HG3:=hid (zAb HFg.out hg3);clear hI3 hg3;go_wp2_with (go_at_call 134;refine(HRt.out _ _ HI3.out).mono ?_;rintro e w4 ⟨rfl,rfl⟩)
      go_ret2
      rw[HE.out];exact⟨HG3.out,_,rfl,fun l h=>by cases h;exact HI3.out⟩
     ·have HE:Hid (R=.error 1):=hid (by rw[HGt.out,if_neg hr]);rw[Bool.not_eq_true]at hr;rw[hr]at HRt;clear hr;go_wp2
      refine zBK _ g2 o2 rl c2 1 x s _ wr _ _ rfl rfl rfl (fun W hW=>HX0.out W hW) HW1.out HW2.out (fun W hW=>HRr.out W hW) (by rw[List.length_map];exact HRl.out) ⟨rfl,rfl,rfl,Nat.le_refl _,fun _ _ _=>rfl⟩ (fun us w3 v3 hg3 hI3=>?_);simp only[zAA,zAN,Act.put,List.setIfInBounds_toArray,List.set_cons_succ,List.set_cons_zero];rw[<-HL.out]at hI3;have HI3:=hid hI3;have HG3:=hid (zAb HFg.out hg3);clear hI3 hg3;go_wp2_with (go_at_call 134;refine(HRt.out _ _ HI3.out).mono ?_;rintro e w4 ⟨rfl,rfl⟩)
      go_ret2
      exact DgO.no HE.out HG3.out
    ·have hfo:Od.firstOf x=2:=by unfold Od.firstOf;(repeat' split) <;> omega
     rw[hfo]at hget;obtain⟨s,hs⟩:∃ s,s=x-40*2:=⟨_,rfl⟩
     rw[<-hs]at hget;have hw1:IntKind.i64.wrap (40*((2:Nat):Int))=((40*2:Nat):Int):=rfl;have hw2:IntKind.i64.wrap ((x:Int)-((40*2:Nat):Int))=((s:Nat):Int):=by
      simp only[IntKind.wrap,IntKind.bits,IntKind.signed];simp;omega
     have HRt:Hid (∀ (v:Value) (W:World),Ints W v (((2:Nat):Int) ::(s:Int) :: r.map fun(m:Nat)=>(m:Int))->Calls prog 134 #[v] W fun e w'=>e=.returned (.bool (Od.right (((2:Nat):Int) ::(s:Int) :: r.map fun(m:Nat)=>(m:Int))))/\w'=W):=hid (fun v W h=>zBw v _ W h);have HW1:=hid hw1;have HW2:=hid hw2;have hi1:¬(x:Int)<40:=by omega
     have hi2:¬(x:Int)<80:=by omega
     clear hw1 hw2 hs hfo hc;obtain⟨L,hL⟩:∃ L,L=((2:Nat):Int) ::(s:Int) :: r.map fun(m:Nat)=>(m:Int):=⟨_,rfl⟩
     rw[<-hL]at hget HRt;have HGt:=hid hget;have HL:=hid hL;clear hget hL;by_cases hr:Od.right L=true
     ·have HE:Hid (R=.ok L):=hid (by rw[HGt.out,if_pos hr]);rw[hr]at HRt;clear hr;go_wp2
      refine zBK _ g2 o2 rl c2 2 x s _ wr _ _ rfl rfl rfl (fun W hW=>HX0.out W hW) HW1.out HW2.out (fun W hW=>HRr.out W hW) (by rw[List.length_map];exact HRl.out) ⟨rfl,rfl,rfl,Nat.le_refl _,fun _ _ _=>rfl⟩ (fun us w3 v3 hg3 hI3=>?_);simp only[zAA,zAN,Act.put,List.setIfInBounds_toArray,List.set_cons_succ,List.set_cons_zero];rw[<-HL.out]at hI3;have HI3:=hid hI3;have HG3:=hid (zAb HFg.out hg3);clear hI3 hg3;go_wp2_with (go_at_call 134;refine(HRt.out _ _ HI3.out).mono ?_;rintro e w4 ⟨rfl,rfl⟩)
      go_ret2
      rw[HE.out];exact⟨HG3.out,_,rfl,fun l h=>by cases h;exact HI3.out⟩
     ·have HE:Hid (R=.error 1):=hid (by rw[HGt.out,if_neg hr]);rw[Bool.not_eq_true]at hr;rw[hr]at HRt;clear hr;go_wp2
      refine zBK _ g2 o2 rl c2 2 x s _ wr _ _ rfl rfl rfl (fun W hW=>HX0.out W hW) HW1.out HW2.out (fun W hW=>HRr.out W hW) (by rw[List.length_map];exact HRl.out) ⟨rfl,rfl,rfl,Nat.le_refl _,fun _ _ _=>rfl⟩ (fun us w3 v3 hg3 hI3=>?_);simp only[zAA,zAN,Act.put,List.setIfInBounds_toArray,List.set_cons_succ,List.set_cons_zero];rw[<-HL.out]at hI3;have HI3:=hid hI3;have HG3:=hid (zAb HFg.out hg3);clear hI3 hg3;go_wp2_with (go_at_call 134;refine(HRt.out _ _ HI3.out).mono ?_;rintro e w4 ⟨rfl,rfl⟩)
      go_ret2
      exact DgO.no HE.out HG3.out
end Go.Proofs.YtijkaknggdaajaaGreatDoor
