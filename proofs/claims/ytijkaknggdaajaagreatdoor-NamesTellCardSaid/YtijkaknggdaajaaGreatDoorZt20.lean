import Derived.Test.YtijkaknggdaajaaGreatDoorZt00
import Derived.Test.YtijkaknggdaajaaGreatDoorZt02
import Derived.Test.YtijkaknggdaajaaGreatDoorZt14
import Derived.Test.YtijkaknggdaajaaGreatDoorZt16
import Derived.Test.YtijkaknggdaajaaGreatDoorZt18
import Derived.Test.YtijkaknggdaajaaGreatDoorZt19
import Derived.Lib.IndexBytes
set_option linter.unusedVariables false
set_option linter.unusedSimpArgs false
set_option maxRecDepth 100000
set_option maxHeartbeats 1000000
namespace Go.Proofs.YtijkaknggdaajaaGreatDoor
open Lib (hid)
open Go.RowKit
def isOB (l:List Nat) (base:Nat):Value→World→Prop:=fun x w=>w.ownsRow base 5 1 x l.length (cellsL l)
theorem stays_isOB (l:List Nat) (base:Nat):Stays (isOB l base):=fun _ _ _ hg h=>World.ownsRow.kept h hg (Classical.em _)
noncomputable def op_regionC:Code:=regionIn Tryz.f97.body 1
theorem op_region (a:Act) (sb so n c:Nat) (x y:Nat) (B:List Nat) (W w:World) (Q:Exit→Act→World→Prop) (hsz:a.tmps.size=28)
  (h0:a.eval (.tmp 0)=.slice (some ⟨sb,so,none⟩) n c)
  (hn:1<n)
  (h0c:∀ w,W.grownBy w none→w.cell? ⟨sb,so+0,none⟩=some (.int .i64 ((x:Nat):Int)))
  (h1c:∀ w,W.grownBy w none→w.cell? ⟨sb,so+1,none⟩=some (.int .i64 ((y:Nat):Int)))
  (hm:IntKind.i64.wrap (40*((x:Nat):Int))=((40*x:Nat):Int))
  (ha:IntKind.i64.wrap (((40*x:Nat):Int)+((y:Nat):Int))=((40*x+y:Nat):Int))
  (hS:∀ w,W.grownBy w none→Calls Tryz.prog 135 #[.int .i64 ((40*x+y:Nat):Int)] w fun e w'=>∃ v,e=.returned v∧w.grownBy w' none∧isOB B W.heap.size v w')
  (hw:W.grownBy { w with drawn:=w.drawn+1 } none)
  (hQ:∀ us w' v,W.grownBy w' none→isOB B W.heap.size v w'→Q .normal ((fill a [6,7,8,9,10,11,12,13,14] us).put (some 3) v) w'):op_regionC.wp Tryz.prog Q a w:=by
 have hst:StaysAll [isV (.slice (some ⟨sb,so,none⟩) n c),isV (.pointer (some ⟨sb,so+0,none⟩)),isV (.int .i64 ((x:Nat):Int)),isV (.int .i64 ((40*x:Nat):Int)),isV (.slice (some ⟨sb,so,none⟩) n c),isV (.pointer (some ⟨sb,so+1,none⟩)),isV (.int .i64 ((y:Nat):Int)),isV (.int .i64 ((40*x+y:Nat):Int)),isOB B W.heap.size]:=⟨stays_V _,stays_V _,stays_V _,stays_V _,stays_V _,stays_V _,stays_V _,stays_V _,stays_isOB _ _,trivial⟩
 conv=>arg 2;whnf
 refine wp_region_flow 9 [6,7,8,9,10,11,12,13,14] (fun w'=>W.grownBy w' none) (fun w w'=>w.grownBy w' none) (flF [isV (.slice (some ⟨sb,so,none⟩) n c),isV (.pointer (some ⟨sb,so+0,none⟩)),isV (.int .i64 ((x:Nat):Int)),isV (.int .i64 ((40*x:Nat):Int)),isV (.slice (some ⟨sb,so,none⟩) n c),isV (.pointer (some ⟨sb,so+1,none⟩)),isV (.int .i64 ((y:Nat):Int)),isV (.int .i64 ((40*x+y:Nat):Int)),isOB B W.heap.size]) (by kernel_rfl) (by kernel_rfl) (fun _ _ h k=>grown_trans k h) (fun j x w w' hg h=>flF_stays hst j x w w' hg h) hw ?_ ?_
 ·refine ⟨?_,?_,?_,?_,?_,?_,?_,?_,?_,trivial⟩
  ·exact flow_step (fun us w hC hd=>wants_free rfl) (fun us w hC hd=>⟨_,w,move_val rfl ((fill_old (by rfl)).trans h0),grown_refl _ _,rfl⟩)
  ·exact flow_step (fun us w hC hd=>wants_free rfl) (fun us w hC hd=>⟨_,w,idx_val rfl ((fill_tmp (by rfl) (by rw[hsz];decide)).trans (hd 0 (by decide))) rfl (idxI w sb so n c 0 (by omega)),grown_refl _ _,rfl⟩)
  ·exact flow_step (fun us w hC hd=>wants_free rfl) (fun us w hC hd=>⟨_,w,loadc_val rfl ((fill_tmp (by rfl) (by rw[hsz];decide)).trans (hd 1 (by decide))) (loadI (h0c w hC)),grown_refl _ _,rfl⟩)
  ·exact flow_step (fun us w hC hd=>wants_free rfl) (fun us w hC hd=>⟨_,w,(mulint_val rfl rfl ((fill_tmp (by rfl) (by rw[hsz];decide)).trans (hd 2 (by decide)))).trans (by rw[hm]),grown_refl _ _,rfl⟩)
  ·exact flow_step (fun us w hC hd=>wants_free rfl) (fun us w hC hd=>⟨_,w,move_val rfl ((fill_old (by rfl)).trans h0),grown_refl _ _,rfl⟩)
  ·exact flow_step (fun us w hC hd=>wants_free rfl) (fun us w hC hd=>⟨_,w,idx_val rfl ((fill_tmp (by rfl) (by rw[hsz];decide)).trans (hd 4 (by decide))) rfl (idxI w sb so n c 1 (by omega)),grown_refl _ _,rfl⟩)
  ·exact flow_step (fun us w hC hd=>wants_free rfl) (fun us w hC hd=>⟨_,w,loadc_val rfl ((fill_tmp (by rfl) (by rw[hsz];decide)).trans (hd 5 (by decide))) (loadI (h1c w hC)),grown_refl _ _,rfl⟩)
  ·exact flow_step (fun us w hC hd=>wants_free rfl) (fun us w hC hd=>⟨_,w,(addint_val rfl ((fill_tmp (by rfl) (by rw[hsz];decide)).trans (hd 3 (by decide))) ((fill_tmp (by rfl) (by rw[hsz];decide)).trans (hd 6 (by decide)))).trans (by rw[ha]),grown_refl _ _,rfl⟩)
  ·refine flow_call 135 (fun us=>#[us 13]) (fun us w hC hd=>wants_free rfl) (fun us w=>by rw[call_enter rfl (fun _ _=>by simp[go_sem]),List.map_toArray,List.map_cons,List.map_nil,fill_tmp (by rfl) (by rw[hsz];decide)]) (fun us w hC' hd=>?_)
   rw[show us 13=.int .i64 ((40*x+y:Nat):Int) from hd 7 (by decide)]
   exact hS w hC'
 ·intro us w' hC' hd
  exact wpList_last rfl (assign_val rfl (fill_tmp (by rfl) (by rw[hsz];decide))) (hQ us w' _ hC' (hd 8 (by decide)))
namespace Od
def rest:List Int→List Nat
 |[]=>[]
 |n :: r=>sept n.toNat++rest r
def put (l:List Int):List Nat:=sept (40*(l.getD 0 0).toNat+(l.getD 1 0).toNat)++rest (l.drop 2)
theorem rest_snoc:∀ (l:List Int) (n:Int),rest (l++[n])=rest l++sept n.toNat
 |[],n=>by simp[rest]
 |x :: r,n=>by rw[List.cons_append,rest,rest_snoc r n,rest,List.append_assoc]
theorem rest_take (l:List Int) (k:Nat) (h:k<l.length):rest (l.take (k+1))=rest (l.take k)++sept (l.getD k 0).toNat:=by
 have e:l.getD k 0=l[k]:=by rw[List.getD_eq_getElem?_getD,List.getElem?_eq_getElem h];rfl
 rw[List.take_add_one,List.getElem?_eq_getElem h,Option.toList_some,rest_snoc,e]
theorem rest_len:∀ l:List Int,(rest l).length≤6*l.length
 |[]=>by simp[rest]
 |n :: r=>by
  have h1:=rest_len r
  have h2:(sept n.toNat).length≤6:=septUpto_len _ 6
  rw[rest,List.length_append,List.length_cons]
  omega
theorem sept_len (n:Nat):(sept n).length≤6:=septUpto_len n 6
end Od
theorem ownsRow_base {w:World} {b1 b2:Nat} {e:TypeId} {s:Nat} {v:Value} {n:Nat} {xs:List Value} (h:w.ownsRow b2 e s v n xs) (hb:b1≤b2):w.ownsRow b1 e s v n xs:=by
 refine ⟨h.1,?_⟩
 rcases h.2 with h1|⟨g,cap,cur,h1,h2,h3⟩
 ·exact .inl h1
 ·exact .inr ⟨g,cap,cur,h1,Nat.le_trans hb h2,h3⟩
theorem refOPut_any (v:Value) (l:List Int) (w:World) (hB:Ints w v l) (hr:Od.right l=true) :
  Calls Tryz.prog 97 #[v] w fun e w'=>∃ u,e=.returned u∧FrW w w' u (Od.put l):=by
 obtain ⟨⟨hl2,hl16,hx0,hx2,hxy⟩,hall⟩:=(Od.right_iff l).1 hr
 have hnat:∀ j,j<l.length→∃ u:Nat,l.getD j 0=u∧u≤2147483647:=fun j hj=>by
  have:=hall l[j] (List.getElem_mem hj)
  have e:l.getD j 0=l[j]:=by rw[List.getD_eq_getElem?_getD,List.getElem?_eq_getElem hj];rfl
  exact ⟨(l.getD j 0).toNat,by omega,by omega⟩
 obtain ⟨x,hx,hxb⟩:=hnat 0 (by omega)
 obtain ⟨y,hy,hyb⟩:=hnat 1 (by omega)
 have hx2':x≤2:=by omega
 have HPut:Hid (Od.put l=Od.sept (40*x+y)++Od.rest (l.drop 2)):=hid (by rw[Od.put,hx,hy,Int.toNat_natCast,Int.toNat_natCast])
 obtain ⟨m,hm⟩:∃ m,l.length=m+2:=⟨l.length-2,by omega⟩
 have hB2:=hB
 obtain ⟨a,sb,so,c,rfl,hc,ha,hcell⟩:=hB2
 obtain ⟨rfl,hsb⟩:=ha (by omega)
 have hF:=Ints.from hB 2 (by omega)
 obtain ⟨a1,sb1,so1,c1,he,hc1,ha1,hcell1⟩:=hF
 have hdl:(l.drop 2).length=m:=by rw[List.length_drop];omega
 obtain ⟨r,hrr⟩:∃ r,r=l.drop 2:=⟨_,rfl⟩
 rw[←hrr] at hdl he hc1 ha1 hcell1 HPut
 rw[hdl] at he hc1 ha1 hcell1
 have hrnat:∀ j,j<m→∃ u:Nat,r.getD j 0=u∧u≤2147483647:=fun j hj=>by
  obtain ⟨u,h1,h2⟩:=hnat (j+2) (by omega)
  refine ⟨u,?_,h2⟩
  rw[←h1,hrr]
  simp[List.getD_eq_getElem?_getD,Nat.add_comm]
 have HRn:=hid hrnat
 have HRt:Hid (∀ k,k<m→Od.rest (r.take (k+1))=Od.rest (r.take k)++Od.sept (r.getD k 0).toNat):=hid (fun k hk=>Od.rest_take r k (by omega))
 have HRl:Hid (∀ k,(Od.rest (r.take k)).length≤6*k):=hid (fun k=>by
  have:=Od.rest_len (r.take k)
  rw[List.length_take] at this
  omega)
 have HRe:Hid (Od.rest (r.take m)=Od.rest r):=hid (by rw[List.take_of_length_le (by omega)])
 have c00:=hcell 0 (by omega)
 have c01:=hcell 1 (by omega)
 rw[hx] at c00
 rw[hy] at c01
 rw[hm] at hc he ⊢
 have HS:=hid (fun (n:Nat) (hn:n≤2147483800) W=>refSept_any n hn W)
 have HSl:=hid Od.sept_len
 have HSt:Hid (∀ n,∀ z∈Od.sept n,z<256):=hid (fun n=>Od.septUpto_lt n 6)
 have HC0:=hid (fun (W:World) (hW:w.grownBy W none)=>by
  have:=c00
  rw[←World.cell?_of_block (hW.block sb hsb (by simp))] at this
  exact this)
 have HC1:=hid (fun (W:World) (hW:w.grownBy W none)=>by
  have:=c01
  rw[←World.cell?_of_block (hW.block sb hsb (by simp))] at this
  exact this)
 have HCr:=hid (fun (W:World) (hW:w.grownBy W none) (j:Nat) (hj:j<m)=>by
  have:=hcell1 j hj
  rw[←World.cell?_of_block (hW.block sb1 (ha1 (by omega)).2 (by simp))] at this
  exact this)
 have hm14:m≤14:=by omega
 have ha1':=fun h=>(ha1 h).1
 have HA1:=hid ha1'
 have hsub:subA (some ⟨sb,so,none⟩) 2 c=a1:=by
  simp only[Value.slice.injEq] at he
  exact he.1
 clear he
 clear hall hnat hr hB hcell hcell1 hrnat ha ha1 ha1' hrr hx hy hxy hx0 hx2 hl2 hl16 c00 c01
 rcases Nat.eq_zero_or_pos m with hmp|hmp
 ·have HM0:=hid hmp
  clear hmp
  go_enter Tryz.func97,Tryz.ntmps97
  go_wp2
  refine op_region _ sb so (m+2) c x y (Od.sept (40*x+y)) w _ _ rfl rfl (by omega) (fun W hW=>HC0.out W hW) (fun W hW=>HC1.out W hW) ?_ ?_ (fun W hW=>(HS.out _ (by omega) W).mono (fun e w' ⟨u,h1,h2⟩=>⟨u,h1,h2.grown,by
   obtain ⟨g1,g2⟩:=h2
   exact ownsRow_base g2 hW.size⟩)) ⟨rfl,rfl,rfl,Nat.le_refl _,fun _ _ _=>rfl⟩ (fun us w3 out hg3 hO3=>?_)
  ·simp only[IntKind.wrap,IntKind.bits,IntKind.signed]
   simp
   omega
  ·simp only[IntKind.wrap,IntKind.bits,IntKind.signed]
   simp
   omega
  simp only[fill_cons,fill_nil,Act.put,List.setIfInBounds_toArray,List.set_cons_succ,List.set_cons_zero]
  have F3:Hid (FrW w w3 out (Od.sept (40*x+y))):=hid ⟨hg3,hO3⟩
  obtain ⟨S0,hS0⟩:∃ S0,S0=Od.sept (40*x+y):=⟨_,rfl⟩
  have HS0:Hid (S0.length≤6):=hid (by rw[hS0];exact HSl.out _)
  rw[←hS0] at F3 HPut
  have FS:Hid (FrW w w3 out (S0++Od.rest (r.take 0))):=hid (by rw[show Od.rest (r.take 0)=[] from rfl,List.append_nil];exact F3.out)
  clear hg3 hO3 hS0
  go_wp2
  go_loopw [3,18] (fun o i wr=>∃ k:Nat,k≤m∧i=.int .i64 k∧FrW w wr o (S0++Od.rest (r.take k))) (fun _ i _=>m-(intOf i).toNat)
  case atStart=>exact ⟨0,by omega,rfl,FS.out⟩
  case round =>
   obtain ⟨k,hk,rfl,hF⟩:=hrel
   have HF:=hid hF
   clear hF
   obtain rfl:k=m:=by have:=HM0.out;omega
   go_wp2
   go_ret
   exact ⟨_,rfl,by rw[HPut.out,←HRe.out];exact HF.out⟩
 ·have hsub1:=HA1.out hmp
  rw[hsub1] at hsub
  go_enter Tryz.func97,Tryz.ntmps97
  go_wp2
  refine op_region _ sb so (m+2) c x y (Od.sept (40*x+y)) w _ _ rfl rfl (by omega) (fun W hW=>HC0.out W hW) (fun W hW=>HC1.out W hW) ?_ ?_ (fun W hW=>(HS.out _ (by omega) W).mono (fun e w' ⟨u,h1,h2⟩=>⟨u,h1,h2.grown,by
   obtain ⟨g1,g2⟩:=h2
   exact ownsRow_base g2 hW.size⟩)) ⟨rfl,rfl,rfl,Nat.le_refl _,fun _ _ _=>rfl⟩ (fun us w3 out hg3 hO3=>?_)
  ·simp only[IntKind.wrap,IntKind.bits,IntKind.signed]
   simp
   omega
  ·simp only[IntKind.wrap,IntKind.bits,IntKind.signed]
   simp
   omega
  simp only[fill_cons,fill_nil,Act.put,List.setIfInBounds_toArray,List.set_cons_succ,List.set_cons_zero]
  have F3:Hid (FrW w w3 out (Od.sept (40*x+y))):=hid ⟨hg3,hO3⟩
  obtain ⟨S0,hS0⟩:∃ S0,S0=Od.sept (40*x+y):=⟨_,rfl⟩
  have HS0:Hid (S0.length≤6):=hid (by rw[hS0];exact HSl.out _)
  rw[←hS0] at F3 HPut
  have FS:Hid (FrW w w3 out (S0++Od.rest (r.take 0))):=hid (by rw[show Od.rest (r.take 0)=[] from rfl,List.append_nil];exact F3.out)
  clear hg3 hO3 hS0
  go_wp2
  go_loopw [3,18] (fun o i wr=>∃ k:Nat,k≤m∧i=.int .i64 k∧FrW w wr o (S0++Od.rest (r.take k))) (fun _ i _=>m-(intOf i).toNat)
  case atStart=>exact ⟨0,by omega,rfl,FS.out⟩
  case round =>
   obtain ⟨k,hk,rfl,hF⟩:=hrel
   have HF:=hid hF
   clear hF
   by_cases hkm:k<m
   ·have hck:=HCr.out _ HF.out.grown k hkm
    obtain ⟨u,hu,hu2⟩:=HRn.out k hkm
    have hrt:=HRt.out k hkm
    rw[hu] at hck hrt
    rw[Int.toNat_natCast] at hrt
    have HRt2:=hid hrt
    have hlen1:=HRl.out k
    have HLn:Hid ((S0++Od.rest (r.take k)).length≤6+6*k):=hid (by rw[List.length_append];have:=HS0.out;omega)
    have HSu:=hid (HS.out u (by omega))
    have HSl2:=hid (HSl.out u)
    have HSt2:=hid (HSt.out u)
    generalize Od.sept u=S at *
    generalize hAcc:S0++Od.rest (r.take k)=acc at *
    have HAcc:=hid hAcc
    clear hrt hu hlen1 hAcc
    go_wp2_with (first
     |(go_at_call 135;refine (HSu.out _).mono ?_;rintro e w4 ⟨v4,rfl,hF4⟩;have F4:=hid hF4;have HF':Hid (FrW w w4 u3 acc):=hid ⟨grown_trans HF.out.grown hF4.grown,HF.out.own.kept hF4.grown (Classical.em _)⟩;obtain ⟨a4,_,c4,rfl,_⟩:=ownsRow_form hF4.own;clear hF4)
     |(at_builtin;refine wpList_appB (by rfl) (.tmp 22) (.tmp 24) 33 (by rfl) w.heap.size 5 (.int .u8 0) 1 Tryz.underlying33 (by kernel_rfl) rfl (by decide) _ acc.length (cellsL acc) (by rfl) HF'.out.own _ S (by rfl) (Bytes.own F4.out.own HSt2.out) (Whole0.own F4.out.own) (by have:=HLn.out;have:=HSl2.out;omega) HF'.out.le ?_;intro v5 w5 ho5 hg5;have F5:=hid (HF'.out.step (l':=acc++S) ho5 hg5 (cellsL_append _ _).symm);clear ho5 hg5))
    go_roundw
    case rel=>exact ⟨k+1,by omega,by go_num,by rw[HRt2.out,←List.append_assoc,HAcc.out];exact F5.out⟩
    case measure=>simp[intOf];omega
   ·obtain rfl:k=m:=by omega
    go_wp2
    go_ret
    exact ⟨_,rfl,by rw[HPut.out,←HRe.out];exact HF.out⟩
end Go.Proofs.YtijkaknggdaajaaGreatDoor
namespace Go.Proofs.YtijkaknggdaajaaGreatDoor
open Lib (hid)
namespace Od
def hiF:Nat→Nat→List Nat
 |0,_=>[]
 |f+1,m=>if m=0 then [] else hiF f (m/128)++[m%128+128]
def hi (m:Nat):List Nat:=hiF 10 m
theorem hiF_enough:∀ (f m:Nat),m<128 ^ f→hiF (f+1) m=hiF f m
 |0,m,h=>by
  have:m=0:=by simpa using h
  subst this;rfl
 |f+1,m,h=>by
  rw[hiF]
  conv=>rhs;rw[hiF]
  rw[hiF_enough f (m/128) (by rw[Nat.pow_succ] at h;omega)]
theorem hi_zero:hi 0=[]:=rfl
theorem hi_step {m:Nat} (h0:m≠0) (h:m<1180591620717411303424):hi m=hi (m/128)++[m%128+128]:=by
 rw[hi,hiF,if_neg h0,hi,hiF_enough 9 (m/128) (by rw[show (128 ^ 9:Nat)=9223372036854775808 by decide];omega)]
theorem septUpto_hi (n:Nat) (hn:n<4398046511104):∀ k,k≤5→septUpto n k=hi (n/128 ^ (6-k))
 |0,_=>by
  rw[septUpto,show n/128 ^ (6-0)=0 from Nat.div_eq_of_lt (by rw[show (128 ^ (6-0):Nat)=4398046511104 by decide];exact hn),hi_zero]
 |k+1,hk=>by
  rw[septUpto,septUpto_hi n hn k (by omega),septStep,show 6-(k+1)=5-k by omega,show 6-k=(5-k)+1 by omega]
  obtain ⟨M,hM⟩:∃ M,M=n/128 ^ (5-k):=⟨_,rfl⟩
  have hM2:n/128 ^ (5-k+1)=M/128:=by rw[Nat.pow_succ,←Nat.div_div_eq_div_mul,hM]
  have hMb:M≤n:=by rw[hM];exact Nat.div_le_self _ _
  rw[hM2,←hM]
  by_cases h0:M=0
  ·subst h0
   rw[if_neg (by simp[hi_zero];omega)]
  ·rw[if_pos,if_pos (by omega),hi_step h0 (by omega)]
   by_cases h1:M/128=0
   ·left;omega
   ·right;left
    rw[hi_step h1 (by omega)]
    simp
theorem sept_hi (n:Nat) (hn:n<4398046511104):sept n=hi (n/128)++[n%128]:=by
 rw[sept,septUpto,septUpto_hi n hn 5 (by omega),septStep]
 simp
def sval (l:List Nat):Nat:=l.foldl (fun a c=>a*128+c%128) 0
theorem sval_snoc (l:List Nat) (c:Nat):sval (l++[c])=sval l*128+c%128:=by simp[sval]
theorem hi_facts:∀ (m:Nat),m<1180591620717411303424→sval (hi m)=m∧(∀ c∈hi m,128≤c)∧(hi m).head?≠some 128:=by
 intro m
 induction m using Nat.strongRecOn with
 |_ m ih =>
  intro hm
  by_cases h0:m=0
  ·subst h0
   rw[hi_zero]
   simp[sval]
  ·obtain ⟨i1,i2,i3⟩:=ih (m/128) (by omega) (by omega)
   rw[hi_step h0 hm]
   refine ⟨?_,?_,?_⟩
   ·rw[sval_snoc,i1];omega
   ·intro c hc
    rcases List.mem_append.1 hc with h|h
    ·exact i2 c h
    ·simp at h;omega
   ·by_cases h1:m/128=0
    ·rw[h1,hi_zero]
     simp
     omega
    ·intro e
     apply i3
     cases hh:hi (m/128) with
     |nil =>
      rw[hi_step h1 (by omega)] at hh
      simp at hh
     |cons x r =>
      rw[hh] at e
      simpa using e
theorem sept_facts (n:Nat) (hn:n<4398046511104):∃ h d,sept n=h++[d]∧(∀ c∈h,128≤c)∧d<128∧sval (h++[d])=n∧(h++[d]).head?≠some 128:=by
 obtain ⟨i1,i2,i3⟩:=hi_facts (n/128) (by omega)
 refine ⟨hi (n/128),n%128,sept_hi n hn,i2,by omega,by rw[sval_snoc,i1];omega,?_⟩
 cases hh:hi (n/128) with
 |nil=>simp;omega
 |cons x r =>
  rw[hh] at i3
  simpa using i3
def piece:List Nat→Option (List Nat×List Nat)
 |[]=>none
 |c :: r=>if c<128 then some ([c],r) else match piece r with
  |none=>none
  |some (p,t)=>some (c :: p,t)
theorem piece_of:∀ (h:List Nat) (d:Nat) (t:List Nat),(∀ c∈h,128≤c)→d<128→piece (h++[d]++t)=some (h++[d],t)
 |[],d,t,_,hd=>by simp[piece,hd]
 |c :: r,d,t,hh,hd=>by
  have h1:=hh c (by simp)
  rw[List.cons_append,List.cons_append,piece,if_neg (by omega),piece_of r d t (fun x hx=>hh x (by simp[hx])) hd]
def nums:Nat→Nat→List Nat→Except Nat (List Nat)
 |_,_,[]=>.ok []
 |0,_,_ :: _=>.error 0
 |f+1,most,c :: l=>match piece (c :: l) with
  |none=>.error 2
  |some (p,t)=>if p.head?=some 128 then .error 4 else if most<sval p then .error 1 else match nums f 2147483647 t with
   |.error k=>.error k
   |.ok r=>.ok (sval p :: r)
def firstOf (n:Nat):Nat:=if n<40 then 0 else if n<80 then 1 else 2
def get (l:List Nat):Except Nat (List Int) :=
 match nums l.length 2147483727 l with
 |.error k=>.error k
 |.ok []=>.error 2
 |.ok (n :: r) =>
  let a:List Int:=(firstOf n:Nat) :: ((n-40*firstOf n:Nat):Int) :: r.map fun (m:Nat)=>(m:Int)
  if right a=true then .ok a else .error 1
theorem nums_sept (f most n:Nat) (t:List Nat) (hn:n<4398046511104) (hm:n≤most):nums (f+1) most (sept n++t)=match nums f 2147483647 t with | .error k=>.error k | .ok r=>.ok (n :: r):=by
 obtain ⟨h,d,e,h1,h2,h3,h4⟩:=sept_facts n hn
 rw[e]
 obtain ⟨c,l,hcl⟩:∃ c l,h++[d]++t=c :: l:=by
  cases h with
  |nil=>exact ⟨d,t,rfl⟩
  |cons x r=>exact ⟨x,r++[d]++t,rfl⟩
 rw[hcl,nums,←hcl,piece_of h d t h1 h2]
 simp only[]
 rw[if_neg h4,h3,if_neg (by omega)]
theorem sept_pos (n:Nat) (hn:n<4398046511104):0<(sept n).length:=by rw[sept_hi n hn];simp
theorem nums_rest:∀ (r:List Int) (f:Nat),(∀ n∈r,0≤n∧n≤2147483647)→(rest r).length≤f→nums f 2147483647 (rest r)=.ok (r.map Int.toNat)
 |[],f,_,_=>by cases f <;> rfl
 |n :: r,f,h,hf=>by
  have h1:=h n (by simp)
  have hp:=sept_pos n.toNat (by omega)
  rw[rest,List.length_append] at hf
  match f,hf with
  |0,hf=>omega
  |f+1,hf =>
   rw[rest,nums_sept f _ n.toNat _ (by omega) (by omega),nums_rest r f (fun x hx=>h x (by simp[hx])) (by omega)]
   rfl
theorem get_put {l:List Int} (h:right l=true):get (put l)=.ok l:=by
 obtain ⟨⟨h2,_,hx0,hx2,hxy⟩,hall⟩:=(right_iff l).1 h
 match l,h2 with
 |x :: y :: r,_ =>
  have hx:=hall x (by simp)
  have hy:=hall y (by simp)
  simp only[List.getD_cons_zero,List.getD_cons_succ] at hx0 hx2 hxy
  have hb:40*x.toNat+y.toNat<4398046511104:=by omega
  have hp:=sept_pos (40*x.toNat+y.toNat) hb
  have e:put (x :: y :: r)=sept (40*x.toNat+y.toNat)++rest r:=rfl
  obtain ⟨f,hf⟩:∃ f,(put (x :: y :: r)).length=f+1:=⟨(put (x :: y :: r)).length-1,by rw[e,List.length_append];omega⟩
  have hr:=nums_rest r f (fun z hz=>hall z (by simp[hz])) (by rw[e,List.length_append] at hf;omega)
  have hn:nums (put (x :: y :: r)).length 2147483727 (put (x :: y :: r))=.ok ((40*x.toNat+y.toNat) :: r.map Int.toNat):=by
   rw[hf,e,nums_sept f _ _ _ hb (by omega),hr]
  have hfo:firstOf (40*x.toNat+y.toNat)=x.toNat:=by
   unfold firstOf
   split
   ·omega
   ·split <;> omega
  have hmap:(r.map Int.toNat).map (fun (m:Nat)=>(m:Int))=r:=by
   rw[List.map_map]
   conv=>rhs;rw[←List.map_id r]
   apply List.map_congr_left
   intro z hz
   have:=(hall z (by simp[hz])).1
   simp
   omega
  rw[get,hn]
  simp only[]
  rw[hfo,hmap,show (40*x.toNat+y.toNat-40*x.toNat)=y.toNat by omega,Int.toNat_of_nonneg hx.1,Int.toNat_of_nonneg hy.1,if_pos h]
end Od
end Go.Proofs.YtijkaknggdaajaaGreatDoor
namespace Go.Proofs.YtijkaknggdaajaaGreatDoor
open Lib (hid)
open Go.RowKit
namespace Cal
def pairs (d:Date):List Nat:=[d.Y/100,d.Y%100,d.M,d.D,d.h,d.mi,d.s]
def twos:List Nat→List Nat
 |[]=>[]
 |p :: r=>two p++twos r
theorem twos_snoc:∀ (l:List Nat) (p:Nat),twos (l++[p])=twos l++two p
 |[],p=>by simp[twos]
 |q :: r,p=>by rw[List.cons_append,twos,twos_snoc r p,twos,List.append_assoc]
theorem twos_len:∀ l:List Nat,(twos l).length=2*l.length
 |[]=>rfl
 |q :: r=>by rw[twos,List.length_append,twos_len r,List.length_cons];simp[two];omega
theorem text_twos (d:Date):text d=twos (pairs d)++[90]:=rfl
theorem take_pairs (l:List Nat) (j:Nat) (h:j<l.length):l.take (j+1)=l.take j++[l.getD j 0]:=by
 rw[List.take_add_one,List.getElem?_eq_getElem h,List.getD_eq_getElem?_getD,List.getElem?_eq_getElem h];rfl
theorem pairs_lt {d:Date} (h:Right d):∀ j,(pairs d).getD j 0<100:=by
 obtain ⟨⟨y1,y2⟩,⟨m1,m2⟩,⟨d1,d2⟩,h1,mi1,s1⟩:=h
 have hd31:=(days_pos (y:=d.Y) m1 m2).2
 intro j
 match j with
 |0=>show d.Y/100<100;omega
 |1=>show d.Y%100<100;omega
 |2=>show d.M<100;omega
 |3=>show d.D<100;omega
 |4=>show d.h<100;omega
 |5=>show d.mi<100;omega
 |6=>show d.s<100;omega
 |n+7=>exact Nat.zero_lt_succ _
theorem twos_lt {l:List Nat} (h:∀ x∈l,x<100):∀ x∈twos l,x<256:=by
 induction l with
 |nil=>intro x hx;cases hx
 |cons p r ih =>
  intro x hx
  rw[twos,List.mem_append] at hx
  rcases hx with hx|hx
  ·have:=h p (List.mem_cons_self ..)
   simp only[two,List.mem_cons,List.not_mem_nil,or_false] at hx
   omega
  ·exact ih (fun y hy=>h y (List.mem_cons_of_mem _ hy)) x hx
end Cal
theorem two_bytes {p:Nat} (hp:p<100) (w:World) (a b:Int) (ha:a=((48+p/10:Nat):Int)) (hb:b=((48+p%10:Nat):Int)):Bytes (w.alloc (.cells #[.int .u8 a,.int .u8 b] 5)) (.slice (some ⟨w.heap.size,0,none⟩) 2 2) (Cal.two p):=by
 subst ha hb
 exact Bytes.lit (l:=Cal.two p) (alloc_at w _) (by intro x hx;simp only[Cal.two,List.mem_cons,List.not_mem_nil,or_false] at hx;omega)
theorem own_ne {v v':Value} {n k:Nat} (h:v'.ownBlock=v.ownBlock∨v'.ownBlock=some n) (h1:v.ownBlock≠some k) (h2:n≠k):v'.ownBlock≠some k:=by
 rcases h with h|h
 ·rw[h];exact h1
 ·rw[h];exact fun e=>h2 (Option.some.inj e)
theorem refMText_any (d:Cal.Date) (hd:Cal.Right d) (w:World):Calls Tryz.prog 98 #[dV d.toI] w fun e w'=>∃ v,e=.returned v∧FrW w w' v (Cal.text d):=by
 have HT:=hid (Cal.text_twos d)
 have HPl:Hid ((Cal.pairs d).length=7):=hid rfl
 have HPt:=hid (Cal.take_pairs (Cal.pairs d))
 have HP1:=hid (Cal.pairs_lt hd)
 have HP0:Hid ((Cal.pairs d).map (fun (x:Nat)=>Value.int .i64 (x:Int))=[.int .i64 ((d.Y:Int)/100),.int .i64 ((d.Y:Int)%100),.int .i64 (d.M:Int),.int .i64 (d.D:Int),.int .i64 (d.h:Int),.int .i64 (d.mi:Int),.int .i64 (d.s:Int)]):=hid (by simp only[Cal.pairs,List.map_cons,List.map_nil,Int.natCast_ediv,Int.natCast_emod];rfl)
 obtain ⟨P,hP⟩:∃ P,P=Cal.pairs d:=⟨_,rfl⟩
 rw[←hP] at HT HPl HPt HP1 HP0
 obtain ⟨TX,hTX⟩:∃ TX,TX=Cal.text d:=⟨_,rfl⟩
 rw[←hTX] at HT ⊢
 obtain ⟨⟨y1,y2⟩,⟨m1,m2⟩,⟨d1,d2⟩,h1,mi1,s1⟩:=hd
 clear hP hTX d1 d2 m1 m2 h1 mi1 s1
 obtain ⟨Y,M,D,h,mi,s⟩:=d
 simp only[Cal.Date.toI] at y1 y2 HP0 ⊢
 have F0:Hid (FrW w (((w.alloc (.cells #[.int .i64 (Y:Int),.int .i64 (M:Int),.int .i64 (D:Int),.int .i64 (h:Int),.int .i64 (mi:Int),.int .i64 (s:Int)] 156)).alloc (.cells #[] 5)).alloc (.cells #[.int .i64 ((Y:Int)/100),.int .i64 ((Y:Int)%100),.int .i64 (M:Int),.int .i64 (D:Int),.int .i64 (h:Int),.int .i64 (mi:Int),.int .i64 (s:Int)] 3)) (.slice (some ⟨w.heap.size+1,0,none⟩) 0 0) []):=hid (by
  refine FrW.alloc ⟨grown_alloc (World.grownBy_alloc _ _ _) _,?_⟩ _
  have:=ownsRow_lit (base:=w.heap.size) (alloc_at (w.alloc (.cells #[.int .i64 (Y:Int),.int .i64 (M:Int),.int .i64 (D:Int),.int .i64 (h:Int),.int .i64 (mi:Int),.int .i64 (s:Int)] 156)) (.cells #[] 5)) (by rw[World.size_alloc];omega) (by simp)
  rw[World.size_alloc] at this
  exact this)
 have HW:∃ W0:World,W0=(((w.alloc (.cells #[.int .i64 (Y:Int),.int .i64 (M:Int),.int .i64 (D:Int),.int .i64 (h:Int),.int .i64 (mi:Int),.int .i64 (s:Int)] 156)).alloc (.cells #[] 5)).alloc (.cells #[.int .i64 ((Y:Int)/100),.int .i64 ((Y:Int)%100),.int .i64 (M:Int),.int .i64 (D:Int),.int .i64 (h:Int),.int .i64 (mi:Int),.int .i64 (s:Int)] 3)):=⟨_,rfl⟩
 have HRow:Hid ((((w.alloc (.cells #[.int .i64 (Y:Int),.int .i64 (M:Int),.int .i64 (D:Int),.int .i64 (h:Int),.int .i64 (mi:Int),.int .i64 (s:Int)] 156)).alloc (.cells #[] 5)).alloc (.cells #[.int .i64 ((Y:Int)/100),.int .i64 ((Y:Int)%100),.int .i64 (M:Int),.int .i64 (D:Int),.int .i64 (h:Int),.int .i64 (mi:Int),.int .i64 (s:Int)] 3)).heap[w.heap.size+2]?=some (.cells (P.map (fun (x:Nat)=>Value.int .i64 (x:Int))).toArray 3 (0,0))):=hid (by
  have:=alloc_at ((w.alloc (.cells #[.int .i64 (Y:Int),.int .i64 (M:Int),.int .i64 (D:Int),.int .i64 (h:Int),.int .i64 (mi:Int),.int .i64 (s:Int)] 156)).alloc (.cells #[] 5)) (.cells #[.int .i64 ((Y:Int)/100),.int .i64 ((Y:Int)%100),.int .i64 (M:Int),.int .i64 (D:Int),.int .i64 (h:Int),.int .i64 (mi:Int),.int .i64 (s:Int)] 3)
  rw[World.size_alloc,World.size_alloc] at this
  rw[this,HP0.out])
 obtain ⟨W0,hW0⟩:=HW
 have hW0':=hW0
 rw[←hW0] at F0 HRow
 have HW0:=hid hW0'
 clear hW0 hW0'
 go_enter Tryz.func98,Tryz.ntmps98
 go_wp2
 rw[←HW0.out]
 go_loopw [25,3,5] (fun i v _ wr=>∃ j:Nat,j≤7∧i=.int .i64 ((j:Nat):Int)∧FrW w wr v (Cal.twos (P.take j))∧wr.heap[w.heap.size+2]?=some (.cells (P.map (fun (x:Nat)=>Value.int .i64 (x:Int))).toArray 3 (0,0))∧v.ownBlock≠some (w.heap.size+2)) (fun i _ _ _=>7-(intOf i).toNat)
 case atStart=>exact ⟨0,by omega,rfl,F0.out,HRow.out,by intro h;simp[Value.ownBlock] at h⟩
 case round =>
  obtain ⟨j,hj,rfl,hF,hr,hne⟩:=hrel
  have HF:=hid hF
  have HR:=hid hr
  have HNe:=hid hne
  by_cases hj7:j<7
  ·have hjP:j<P.length:=by rw[HPl.out];exact hj7
   have hcell:wr.cell? ⟨w.heap.size+2,j,none⟩=some (.int .i64 ((P.getD j 0:Nat):Int)):=cell_blk hr j (by simp[hjP])
   have HTk:=hid (by
    have:=HPt.out j hjP
    exact this)
   have hp:=HP1.out j
   generalize P.getD j 0=p at *
   have HNx:Hid (Cal.twos (P.take (j+1))=Cal.twos (P.take j)++Cal.two p):=hid (by rw[HTk.out,Cal.twos_snoc])
   have HLn:Hid ((Cal.twos (P.take j)).length≤14):=hid (by rw[Cal.twos_len,List.length_take];omega)
   clear hF hr hne hjP HTk
   go_wp2_with (at_builtin;refine wpList_appB2 (by rfl) (.tmp 29) (.tmp 38) 33 (by rfl) w.heap.size 5 (.int .u8 0) 1 Tryz.underlying33 (by kernel_rfl) rfl (by decide) _ _ _ (by rfl) (HF.out.own.alloc _) _ (Cal.two p) (by rfl) (two_bytes hp _ _ _ (by omega) (by omega)) (Whole0.some _ _ _) (by have:=HLn.out;simp only[Cal.two,List.length_cons,List.length_nil];omega) (by have:=HF.out.le;rw[alloc_size];omega) ?_;intro v3 w3 ho3 hg3 hb3;have HH:=hid ((HF.out.alloc _).step (l':=Cal.twos (P.take (j+1))) ho3 hg3 (by rw[HNx.out];exact (cellsL_append _ _).symm));have HR3:=hid ((hg3.block _ (by rw[alloc_size];have:=blk_lt HR.out;omega) (fun e=>HNe.out e.symm)).trans ((Below.heap_alloc _ _ _ (by have:=blk_lt HR.out;omega)).trans HR.out));have HN3:=hid (own_ne hb3 HNe.out (by rw[alloc_size];have:=blk_lt HR.out;omega));clear ho3 hg3 hb3)
   go_roundw
   case rel=>exact ⟨j+1,by omega,by go_num,HH.out,HR3.out,HN3.out⟩
   case measure=>simp[intOf];omega
  ·obtain rfl:j=7:=by omega
   have HL:Hid (Cal.twos (P.take 7)=Cal.twos P):=hid (by rw[List.take_of_length_le (by rw[HPl.out];exact Nat.le_refl _)])
   rw[HL.out] at HF
   have HLn:Hid ((Cal.twos P).length=14):=hid (by rw[Cal.twos_len,HPl.out])
   clear hF hr hne
   go_wp2_with (at_builtin;refine wpList_appB (by rfl) (.tmp 41) (.tmp 42) 33 (by rfl) w.heap.size 5 (.int .u8 0) 1 Tryz.underlying33 (by kernel_rfl) rfl (by decide) _ _ _ (by rfl) (HF.out.own.alloc _) _ [90] (by rfl) (Bytes.lit (alloc_at _ _) (by decide)) (Whole0.some _ _ _) (by have:=HLn.out;simp only[List.length_cons,List.length_nil];omega) (by have:=HF.out.le;rw[alloc_size];omega) ?_;intro v3 w3 ho3 hg3;have HH:=hid ((HF.out.alloc _).step (l':=TX) ho3 hg3 (by rw[HT.out];exact (cellsL_append _ _).symm));clear ho3 hg3)
   go_ret
   exact ⟨_,rfl,HH.out⟩
end Go.Proofs.YtijkaknggdaajaaGreatDoor
namespace Go.Proofs.YtijkaknggdaajaaGreatDoor
open Lib (hid)
namespace Od
def numOf (p:List Nat):Except Nat Int:=match part p with|some n=>.ok n|none=>.error 4
def gat:List (Except Nat Int)→Except Nat (List Int)
 |[]=>.ok []
 |.error k :: _=>.error k
 |.ok n :: r=>match gat r with | .error k=>.error k | .ok l=>.ok (n :: l)
theorem gat_ok:∀ l:List Int,gat (l.map .ok)=.ok l
 |[]=>rfl
 |n :: r=>by rw[List.map_cons,gat,gat_ok r]
theorem gat_err:∀ (l:List Int) (k:Nat) (t:List (Except Nat Int)),gat (l.map .ok ++ .error k :: t)=.error k
 |[],k,t=>rfl
 |n :: r,k,t=>by rw[List.map_cons,List.cons_append,gat,gat_err r]
theorem gat_arcs:∀ ps:List (List Nat),gat (ps.map numOf)=match arcs ps with|none=>.error 4|some a=>.ok a
 |[]=>rfl
 |p :: r=>by
  rw[List.map_cons,arcs,numOf]
  cases part p with
  |none=>rfl
  |some n =>
   simp only[]
   rw[gat,gat_arcs r]
   cases arcs r <;> rfl
theorem right_take (a:List Int):right (a.take 17)=right a:=by
 rcases Nat.lt_or_ge 17 a.length with h|h
 ·have h1:right a=false:=by
   rw[←Bool.not_eq_true];intro e
   have:=((right_iff a).1 e).1.2.1
   omega
  have h2:right (a.take 17)=false:=by
   rw[←Bool.not_eq_true];intro e
   have:=((right_iff _).1 e).1.2.1
   rw[List.length_take] at this
   omega
  rw[h1,h2]
 ·rw[List.take_of_length_le h]
theorem take_right {a:List Int} (h:right a=true):a.take 17=a:=List.take_of_length_le (by have:=((right_iff a).1 h).1.2.1;omega)
theorem parse_gat (s:List Nat):parse s=match gat ((split s).map numOf) with | .error k=>.error k | .ok a=>if right (a.take 17)=true then .ok (a.take 17) else .error 1:=by
 rw[parse,gat_arcs]
 cases arcs (split s) with
 |none=>rfl
 |some a =>
  simp only[]
  rw[right_take]
  by_cases h:right a=true
  ·rw[if_pos h,if_pos h,take_right h]
  ·rw[if_neg h,if_neg h]
end Od
end Go.Proofs.YtijkaknggdaajaaGreatDoor
namespace Go.Proofs.YtijkaknggdaajaaGreatDoor
open Lib (hid)
open Go.RowKit
theorem splitA_index:∀ (l:List UInt8) (acc:List Nat),
  (Lib.indexByte l 46=-1∧Od.splitA acc (l.map (·.toNat))=[acc++l.map (·.toNat)]) ∨
  ∃ k:Nat,Lib.indexByte l 46=k∧k<l.length∧Od.splitA acc (l.map (·.toNat))=(acc++(l.take k).map (·.toNat)) :: Od.splitA [] ((l.drop (k+1)).map (·.toNat))
 |[],acc=>.inl ⟨rfl,by simp[Od.splitA]⟩
 |b :: r,acc=>by
  by_cases hb:b=46
  ·subst hb
   refine .inr ⟨0,by simp[Lib.indexByte],by simp,?_⟩
   rw[List.map_cons,Od.splitA,if_pos (by decide)]
   simp
  ·have hb2:b.toNat≠46:=fun e=>hb (by rw[←UInt8.toNat_inj,e];rfl)
   have hb3:(b==46)=false:=by simp[hb]
   rcases splitA_index r (acc++[b.toNat]) with ⟨h1,h2⟩|⟨k,h1,h2,h3⟩
   ·refine .inl ⟨by rw[Lib.indexByte,hb3,h1];simp,?_⟩
    rw[List.map_cons,Od.splitA,if_neg hb2,h2]
    simp
   ·refine .inr ⟨k+1,?_,by simp;omega,?_⟩
    ·rw[Lib.indexByte,hb3,h1]
     have:((k:Int) == -1)=false:=by rw[beq_eq_false_iff_ne];omega
     rw[this]
     simp
    ·rw[List.map_cons,Od.splitA,if_neg hb2,h3]
     simp
theorem split_index (t:ByteArray) :
  (Lib.indexByte t.data.toList 46=-1∧Od.split (strL t)=[strL t]) ∨
  ∃ k:Nat,Lib.indexByte t.data.toList 46=k∧k<t.size∧t.extract 0 k=strOf ((strL t).take k)∧Od.split (strL t)=(strL t).take k :: Od.split (strL (t.extract (k+1) t.size)):=by
 have hsz:t.data.toList.length=t.size:=by rw[Array.length_toList];rfl
 rcases splitA_index t.data.toList [] with ⟨h1,h2⟩|⟨k,h1,h2,h3⟩
 ·exact .inl ⟨h1,by simpa [Od.split,strL] using h2⟩
 ·refine .inr ⟨k,h1,by omega,?_,?_⟩
  ·rw[extract_seg];simp[seg]
  ·rw[Od.split]
   have:strL t=t.data.toList.map (·.toNat):=rfl
   rw[this,h3,extract_seg,strL_strOf]
   ·rw[←strL_len t,seg_end,strL]
    simp[Od.split]
   ·intro x hx
    exact strL_lt t x (List.mem_of_mem_drop (List.mem_of_mem_take hx))
end Go.Proofs.YtijkaknggdaajaaGreatDoor
namespace Go.Proofs.YtijkaknggdaajaaGreatDoor
open Lib (hid)
namespace Od
def numB (most:Nat) (p:List Nat):Except Nat Int :=
 if ¬ p.getD (p.length-1) 0<128 then .error 2 else if p.getD 0 0=128 then .error 4 else if most<sval p then .error 1 else .ok ((sval p:Nat):Int)
def fst (l:List Nat):Nat:=match piece l with
 |none=>l.length
 |some (p,_)=>p.length
def seqs:Nat→Nat→List Nat→List (Except Nat Int)
 |_,_,[]=>[]
 |0,_,_ :: _=>[]
 |f+1,most,c :: l=>numB most ((c :: l).take (fst (c :: l))) :: seqs f 2147483647 ((c :: l).drop (fst (c :: l)))
theorem piece_parts:∀ (l:List Nat) {p t:List Nat},piece l=some (p,t)→∃ h d,p=h++[d]∧l=p++t∧(∀ c∈h,¬ c<128)∧d<128
 |[],p,t,h=>by cases h
 |c :: r,p,t,h=>by
  rw[piece] at h
  split at h
  ·rename_i hc
   cases h
   exact ⟨[],c,rfl,rfl,by simp,hc⟩
  ·rename_i hc
   split at h
   ·cases h
   ·rename_i p' t' hp
    cases h
    obtain ⟨h',d,rfl,rfl,h3,h4⟩:=piece_parts r hp
    refine ⟨c :: h',d,rfl,rfl,fun x hx=>?_,h4⟩
    rcases List.mem_cons.1 hx with e|e
    ·rw[e];exact hc
    ·exact h3 x e
theorem piece_none:∀ (l:List Nat),piece l=none→∀ c∈l,¬ c<128
 |[],_,c,hc=>by cases hc
 |x :: r,h,c,hc=>by
  rw[piece] at h
  split at h
  ·cases h
  ·rename_i hx
   split at h
   ·rename_i hp
    rcases List.mem_cons.1 hc with e|e
    ·rw[e];exact hx
    ·exact piece_none r hp c e
   ·cases h
theorem getD_mem {l:List Nat} {j:Nat} (h:j<l.length):l.getD j 0∈l:=by
 rw[List.getD_eq_getElem?_getD,List.getElem?_eq_getElem h];exact List.getElem_mem h
theorem fst_facts {l:List Nat} (h0:0<l.length):0<fst l∧fst l≤l.length∧(∀ j,j+1<fst l→¬ l.getD j 0<128)∧((l.getD (fst l-1) 0<128∧∃ p t,piece l=some (p,t)∧p=l.take (fst l)∧t=l.drop (fst l))∨(¬ l.getD (fst l-1) 0<128∧piece l=none∧fst l=l.length∧∀ j,j<l.length→¬ l.getD j 0<128)):=by
 cases hp:piece l with
 |none =>
  have hf:fst l=l.length:=by unfold fst;rw[hp]
  have ha:∀ j,j<l.length→¬ l.getD j 0<128:=fun j hj=>piece_none l hp _ (getD_mem hj)
  rw[hf]
  exact ⟨h0,Nat.le_refl _,fun j hj=>ha j (by omega),.inr ⟨ha _ (by omega),rfl,rfl,ha⟩⟩
 |some q =>
  obtain ⟨p,t⟩:=q
  have hf:fst l=p.length:=by unfold fst;rw[hp]
  obtain ⟨h,d,hpe,hre,hlo,hhi⟩:=piece_parts _ hp
  have hpl:p.length=h.length+1:=by rw[hpe,List.length_append];rfl
  rw[hf]
  refine ⟨by omega,by rw[hre,List.length_append];omega,fun j hj=>?_,.inl ⟨?_,p,t,rfl,by rw[hre,List.take_left],by rw[hre,List.drop_left]⟩⟩
  ·have e:l.getD j 0=h.getD j 0:=by
    rw[hre,hpe,List.getD_eq_getElem?_getD,List.getElem?_append_left (by rw[List.length_append];omega),List.getElem?_append_left (by omega),List.getD_eq_getElem?_getD]
   rw[e]
   exact hlo _ (getD_mem (by omega))
  ·have e:l.getD (p.length-1) 0=d:=by
    rw[hpl,Nat.add_sub_cancel,hre,hpe,List.getD_eq_getElem?_getD,List.getElem?_append_left (by rw[List.length_append];simp),List.getElem?_append_right (Nat.le_refl _)]
    simp
   rw[e];exact hhi
theorem head_getD (p:List Nat) (h:0<p.length):(p.head?=some 128)↔p.getD 0 0=128:=by
 cases p with
 |nil=>simp at h
 |cons x r=>simp
theorem seqs_nums:∀ (f most:Nat) (l:List Nat),l.length≤f→gat (seqs f most l)=(match nums f most l with
  |.error k=>.error k
  |.ok ns=>.ok (ns.map fun (m:Nat)=>(m:Int)))
 |0,most,[],_=>rfl
 |f+1,most,[],_=>rfl
 |0,most,c :: l,h=>by simp at h
 |f+1,most,c :: l,h=>by
  obtain ⟨h0,h1,_,h3⟩:=fst_facts (l:=c :: l) (by simp)
  have htl:((c :: l).take (fst (c :: l))).length=fst (c :: l):=by rw[List.length_take];omega
  have hlast:((c :: l).take (fst (c :: l))).getD (fst (c :: l)-1) 0=(c :: l).getD (fst (c :: l)-1) 0:=by
   rw[List.getD_eq_getElem?_getD,List.getElem?_take_of_lt (by omega),←List.getD_eq_getElem?_getD]
  rw[seqs,nums]
  rcases h3 with ⟨h4,p,t,hp,hpe,hte⟩|⟨h4,hp,_⟩
  ·rw[hp]
   have hpl:0<p.length:=by rw[hpe,htl];exact h0
   have hp4:p.getD (p.length-1) 0<128:=by rw[hpe,htl,hlast];exact h4
   have htf:t.length≤f:=by rw[hte,List.length_drop];simp at h ⊢;omega
   rw[←hpe,←hte]
   have ih:=seqs_nums f 2147483647 t htf
   unfold numB
   rw[if_neg (fun h=>h hp4)]
   simp only[]
   by_cases h5:p.getD 0 0=128
   ·rw[if_pos h5,if_pos ((head_getD p hpl).2 h5)];rfl
   ·rw[if_neg h5,if_neg (fun e=>h5 ((head_getD p hpl).1 e))]
    by_cases h6:most<sval p
    ·rw[if_pos h6,if_pos h6];rfl
    ·rw[if_neg h6,if_neg h6,gat,ih]
     cases nums f 2147483647 t <;> rfl
  ·rw[hp]
   unfold numB
   rw[if_pos (by rw[htl,hlast];exact h4)]
   rfl
end Od
namespace Od
def mostAt (k:Nat):Nat:=if k=0 then 2147483727 else 2147483647
structure GS (b:List Nat) (k:Nat) (ns:List Nat):Prop where
 le:k≤b.length
 few:ns.length≤k
 any:0<k→ns≠[]
 lim:∀ n∈ns,n≤2147483727
 now:∃ f,(b.drop k).length≤f∧nums b.length 2147483727 b=(match nums f (mostAt k) (b.drop k) with | .error e=>.error e | .ok r=>.ok (ns++r))
end Od
theorem onums_err:∀ (f most:Nat) (l:List Nat) {k:Nat},l.length≤f→Od.nums f most l=.error k→k≠0
 |f,_,[],_,_,h=>by cases f <;> simp[Od.nums] at h
 |0,_,_ :: _,_,hf,_=>by simp at hf
 |f+1,most,c :: l,k,hf,h=>by
  rw[Od.nums] at h
  cases hp:Od.piece (c :: l) with
  |none=>rw[hp] at h;have:=Except.error.inj h;omega
  |some p =>
   obtain ⟨p,t⟩:=p
   rw[hp] at h
   have h:(if p.head?=some 128 then (Except.error 4:Except Nat (List Nat)) else if most<Od.sval p then .error 1 else match Od.nums f 2147483647 t with
    |.error k=>.error k
    |.ok r=>.ok (Od.sval p :: r))=.error k:=h
   obtain ⟨hh,d,hpe,hle,_⟩:=Od.piece_parts _ hp
   have hl2:=congrArg List.length hle
   rw[List.length_append,hpe,List.length_append,List.length_cons] at hl2
   simp only[List.length_singleton,List.length_cons] at hl2 hf
   split at h
   ·have:=Except.error.inj h;omega
   ·split at h
    ·have:=Except.error.inj h;omega
    ·cases hn:Od.nums f 2147483647 t with
     |error e=>rw[hn] at h;obtain rfl:=Except.error.inj h;exact onums_err f _ t (by omega) hn
     |ok r=>rw[hn] at h;exact absurd h (by simp)
theorem oget_err {l:List Nat} {k:Nat} (h:Od.get l=.error k):k≠0:=by
 unfold Od.get at h
 cases hn:Od.nums l.length 2147483727 l with
 |error e=>rw[hn] at h;obtain rfl:=Except.error.inj h;exact onums_err _ _ l (Nat.le_refl _) hn
 |ok r =>
  rw[hn] at h
  cases r with
  |nil=>have:=Except.error.inj h;omega
  |cons n r =>
   revert h
   simp only
   split
   ·intro h;exact absurd h (by simp)
   ·intro h;have:=Except.error.inj h;omega
end Go.Proofs.YtijkaknggdaajaaGreatDoor
