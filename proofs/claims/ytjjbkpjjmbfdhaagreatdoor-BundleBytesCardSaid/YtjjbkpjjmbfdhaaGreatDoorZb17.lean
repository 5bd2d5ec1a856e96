import Derived.Test.YtjjbkpjjmbfdhaaGreatDoorZb00
import Derived.Test.YtjjbkpjjmbfdhaaGreatDoorZb01
import Derived.Test.YtjjbkpjjmbfdhaaGreatDoorZb11
import Derived.Test.YtjjbkpjjmbfdhaaGreatDoorZb13
import Derived.Test.YtjjbkpjjmbfdhaaGreatDoorZb14
import Derived.Lib.IndexBytes
set_option linter.unusedVariables false
set_option linter.unusedSimpArgs false
set_option maxRecDepth 100000
set_option maxHeartbeats 1000000
namespace Go.Proofs.YtjjbkpjjmbfdhaaGreatDoor
open Lib (hid)
open Go.RowKit
def isOB (l:List Nat) (base:Nat):Value→World→Prop:=fun x w=>w.ownsRow base 5 1 x l.length (cellsL l)
theorem stays_isOB (l:List Nat) (base:Nat):Stays (isOB l base):=fun _ _ _ hg h=>World.ownsRow.kept h hg (Classical.em _)
noncomputable def op_regionC:Code:=regionIn Tryz.f130.body 1
theorem op_region (a:Act) (sb so n c:Nat) (x y:Nat) (B:List Nat) (W w:World) (Q:Exit→Act→World→Prop) (hsz:a.tmps.size=28)
  (h0:a.eval (.tmp 0)=.slice (some ⟨sb,so,none⟩) n c)
  (hn:1<n)
  (h0c:∀ w,W.grownBy w none→w.cell? ⟨sb,so+0,none⟩=some (.int .i64 ((x:Nat):Int)))
  (h1c:∀ w,W.grownBy w none→w.cell? ⟨sb,so+1,none⟩=some (.int .i64 ((y:Nat):Int)))
  (hm:IntKind.i64.wrap (40*((x:Nat):Int))=((40*x:Nat):Int))
  (ha:IntKind.i64.wrap (((40*x:Nat):Int)+((y:Nat):Int))=((40*x+y:Nat):Int))
  (hS:∀ w,W.grownBy w none→Calls Tryz.prog 167 #[.int .i64 ((40*x+y:Nat):Int)] w fun e w'=>∃ v,e=.returned v∧w.grownBy w' none∧isOB B W.heap.size v w')
  (hw:W.grownBy { w with drawn:=w.drawn+1 } none)
  (hQ:∀ us w' v,W.grownBy w' none→isOB B W.heap.size v w'→Q .normal ((fill a [6,7,8,9,10,11,12,13,14] us).put (some 3) v) w'):op_regionC.wp Tryz.prog Q a w:=by
 have hst:StaysAll [isV (.slice (some ⟨sb,so,none⟩) n c),isV (.pointer (some ⟨sb,so+0,none⟩)),isV (.int .i64 ((x:Nat):Int)),isV (.int .i64 ((40*x:Nat):Int)),isV (.slice (some ⟨sb,so,none⟩) n c),isV (.pointer (some ⟨sb,so+1,none⟩)),isV (.int .i64 ((y:Nat):Int)),isV (.int .i64 ((40*x+y:Nat):Int)),isOB B W.heap.size]:=⟨stays_V _,stays_V _,stays_V _,stays_V _,stays_V _,stays_V _,stays_V _,stays_V _,stays_isOB _ _,trivial⟩
 conv=>arg 2;whnf
 refine wp_region_flow 9 [6,7,8,9,10,11,12,13,14] (fun w'=>W.grownBy w' none) (fun w w'=>w.grownBy w' none) (flF [isV (.slice (some ⟨sb,so,none⟩) n c),isV (.pointer (some ⟨sb,so+0,none⟩)),isV (.int .i64 ((x:Nat):Int)),isV (.int .i64 ((40*x:Nat):Int)),isV (.slice (some ⟨sb,so,none⟩) n c),isV (.pointer (some ⟨sb,so+1,none⟩)),isV (.int .i64 ((y:Nat):Int)),isV (.int .i64 ((40*x+y:Nat):Int)),isOB B W.heap.size]) (by kernel_rfl) (by kernel_rfl) (fun _ _ h k=>grown_trans k h) (fun j x w w' hg h=>flF_stays hst j x w w' hg h) hw ?_ ?_
 ·refine ⟨?_,?_,?_,?_,?_,?_,?_,?_,?_,trivial⟩
  ·exact flow_step (fun us w hC hd=>wants_free rfl) (fun us w hC hd=>⟨_,w,move_val rfl ((fill_old (by rfl)).trans h0),grown_refl _ _,rfl⟩)
  ·exact flow_step (fun us w hC hd=>wants_free rfl) (fun us w hC hd=>⟨_,w,idx_val rfl ((fill_tmp (by rfl) (by rw[hsz];decide)).trans (hd 0 (by decide))) rfl (idxI w sb so n c 0 (by omega)),grown_refl _ _,rfl⟩)
  ·exact flow_step (fun us w hC hd=>wants_free rfl) (fun us w hC hd=>⟨_,w,loadc_val rfl ((fill_tmp (by rfl) (by rw[hsz];decide)).trans (hd 1 (by decide))) (loadI (h0c w hC)),grown_refl _ _,rfl⟩)
  ·exact flow_step (fun us w hC hd=>wants_free rfl) (fun us w hC hd=>⟨_,w,(mulint_val rfl rfl ((fill_tmp (by rfl) (by rw[hsz];decide)).trans (hd 2 (by decide)))).trans (by rw[hm]),grown_refl _ _,rfl⟩)
  ·exact flow_step (fun us w hC hd=>wants_free rfl) (fun us w hC hd=>⟨_,w,move_val rfl ((fill_old (by rfl)).trans h0),grown_refl _ _,rfl⟩)
  ·exact flow_step (fun us w hC hd=>wants_free rfl) (fun us w hC hd=>⟨_,w,idx_val rfl ((fill_tmp (by rfl) (by rw[hsz];decide)).trans (hd 4 (by decide))) rfl (idxI w sb so n c 1 (by omega)),grown_refl _ _,rfl⟩)
  ·exact flow_step (fun us w hC hd=>wants_free rfl) (fun us w hC hd=>⟨_,w,loadc_val rfl ((fill_tmp (by rfl) (by rw[hsz];decide)).trans (hd 5 (by decide))) (loadI (h1c w hC)),grown_refl _ _,rfl⟩)
  ·exact flow_step (fun us w hC hd=>wants_free rfl) (fun us w hC hd=>⟨_,w,(addint_val rfl ((fill_tmp (by rfl) (by rw[hsz];decide)).trans (hd 3 (by decide))) ((fill_tmp (by rfl) (by rw[hsz];decide)).trans (hd 6 (by decide)))).trans (by rw[ha]),grown_refl _ _,rfl⟩)
  ·refine flow_call 167 (fun us=>#[us 13]) (fun us w hC hd=>wants_free rfl) (fun us w=>by rw[call_enter rfl (fun _ _=>by simp[go_sem]),List.map_toArray,List.map_cons,List.map_nil,fill_tmp (by rfl) (by rw[hsz];decide)]) (fun us w hC' hd=>?_)
   rw[show us 13=.int .i64 ((40*x+y:Nat):Int) from hd 7 (by decide)]
   exact hS w hC'
 ·intro us w' hC' hd
  exact wpList_last rfl (assign_val rfl (fill_tmp (by rfl) (by rw[hsz];decide))) (hQ us w' _ hC' (hd 8 (by decide)))
namespace Od
def rest:List Int→List Nat
 |[]=>[]
 |n :: r=>sept n.toNat++rest r
def put (l:List Int):List Nat:=sept (40*(l.getD 0 0).toNat+(l.getD 1 0).toNat)++rest (l.drop 2)
theorem rest_snoc:∀ (l:List Int) (n:Int),rest (l++[n])=rest l++sept n.toNat
 |[],n=>by simp[rest]
 |x :: r,n=>by rw[List.cons_append,rest,rest_snoc r n,rest,List.append_assoc]
theorem rest_take (l:List Int) (k:Nat) (h:k<l.length):rest (l.take (k+1))=rest (l.take k)++sept (l.getD k 0).toNat:=by
 have e:l.getD k 0=l[k]:=by rw[List.getD_eq_getElem?_getD,List.getElem?_eq_getElem h];rfl
 rw[List.take_add_one,List.getElem?_eq_getElem h,Option.toList_some,rest_snoc,e]
theorem rest_len:∀ l:List Int,(rest l).length≤6*l.length
 |[]=>by simp[rest]
 |n :: r=>by
  have h1:=rest_len r
  have h2:(sept n.toNat).length≤6:=septUpto_len _ 6
  rw[rest,List.length_append,List.length_cons]
  omega
theorem sept_len (n:Nat):(sept n).length≤6:=septUpto_len n 6
end Od
theorem ownsRow_base {w:World} {b1 b2:Nat} {e:TypeId} {s:Nat} {v:Value} {n:Nat} {xs:List Value} (h:w.ownsRow b2 e s v n xs) (hb:b1≤b2):w.ownsRow b1 e s v n xs:=by
 refine ⟨h.1,?_⟩
 rcases h.2 with h1|⟨g,cap,cur,h1,h2,h3⟩
 ·exact .inl h1
 ·exact .inr ⟨g,cap,cur,h1,Nat.le_trans hb h2,h3⟩
theorem refOPut_any (v:Value) (l:List Int) (w:World) (hB:Ints w v l) (hr:Od.right l=true) :
  Calls Tryz.prog 130 #[v] w fun e w'=>∃ u,e=.returned u∧FrW w w' u (Od.put l):=by
 obtain ⟨⟨hl2,hl16,hx0,hx2,hxy⟩,hall⟩:=(Od.right_iff l).1 hr
 have hnat:∀ j,j<l.length→∃ u:Nat,l.getD j 0=u∧u≤2147483647:=fun j hj=>by
  have:=hall l[j] (List.getElem_mem hj)
  have e:l.getD j 0=l[j]:=by rw[List.getD_eq_getElem?_getD,List.getElem?_eq_getElem hj];rfl
  exact ⟨(l.getD j 0).toNat,by omega,by omega⟩
 obtain ⟨x,hx,hxb⟩:=hnat 0 (by omega)
 obtain ⟨y,hy,hyb⟩:=hnat 1 (by omega)
 have hx2':x≤2:=by omega
 have HPut:Hid (Od.put l=Od.sept (40*x+y)++Od.rest (l.drop 2)):=hid (by rw[Od.put,hx,hy,Int.toNat_natCast,Int.toNat_natCast])
 obtain ⟨m,hm⟩:∃ m,l.length=m+2:=⟨l.length-2,by omega⟩
 have hB2:=hB
 obtain ⟨a,sb,so,c,rfl,hc,ha,hcell⟩:=hB2
 obtain ⟨rfl,hsb⟩:=ha (by omega)
 have hF:=Ints.from hB 2 (by omega)
 obtain ⟨a1,sb1,so1,c1,he,hc1,ha1,hcell1⟩:=hF
 have hdl:(l.drop 2).length=m:=by rw[List.length_drop];omega
 obtain ⟨r,hrr⟩:∃ r,r=l.drop 2:=⟨_,rfl⟩
 rw[←hrr] at hdl he hc1 ha1 hcell1 HPut
 rw[hdl] at he hc1 ha1 hcell1
 have hrnat:∀ j,j<m→∃ u:Nat,r.getD j 0=u∧u≤2147483647:=fun j hj=>by
  obtain ⟨u,h1,h2⟩:=hnat (j+2) (by omega)
  refine ⟨u,?_,h2⟩
  rw[←h1,hrr]
  simp[List.getD_eq_getElem?_getD,Nat.add_comm]
 have HRn:=hid hrnat
 have HRt:Hid (∀ k,k<m→Od.rest (r.take (k+1))=Od.rest (r.take k)++Od.sept (r.getD k 0).toNat):=hid (fun k hk=>Od.rest_take r k (by omega))
 have HRl:Hid (∀ k,(Od.rest (r.take k)).length≤6*k):=hid (fun k=>by
  have:=Od.rest_len (r.take k)
  rw[List.length_take] at this
  omega)
 have HRe:Hid (Od.rest (r.take m)=Od.rest r):=hid (by rw[List.take_of_length_le (by omega)])
 have c00:=hcell 0 (by omega)
 have c01:=hcell 1 (by omega)
 rw[hx] at c00
 rw[hy] at c01
 rw[hm] at hc he ⊢
 have HS:=hid (fun (n:Nat) (hn:n≤2147483800) W=>refSept_any n hn W)
 have HSl:=hid Od.sept_len
 have HSt:Hid (∀ n,∀ z∈Od.sept n,z<256):=hid (fun n=>Od.septUpto_lt n 6)
 have HC0:=hid (fun (W:World) (hW:w.grownBy W none)=>by
  have:=c00
  rw[←World.cell?_of_block (hW.block sb hsb (by simp))] at this
  exact this)
 have HC1:=hid (fun (W:World) (hW:w.grownBy W none)=>by
  have:=c01
  rw[←World.cell?_of_block (hW.block sb hsb (by simp))] at this
  exact this)
 have HCr:=hid (fun (W:World) (hW:w.grownBy W none) (j:Nat) (hj:j<m)=>by
  have:=hcell1 j hj
  rw[←World.cell?_of_block (hW.block sb1 (ha1 (by omega)).2 (by simp))] at this
  exact this)
 have hm14:m≤14:=by omega
 have ha1':=fun h=>(ha1 h).1
 have HA1:=hid ha1'
 have hsub:subA (some ⟨sb,so,none⟩) 2 c=a1:=by
  simp only[Value.slice.injEq] at he
  exact he.1
 clear he
 clear hall hnat hr hB hcell hcell1 hrnat ha ha1 ha1' hrr hx hy hxy hx0 hx2 hl2 hl16 c00 c01
 rcases Nat.eq_zero_or_pos m with hmp|hmp
 ·have HM0:=hid hmp
  clear hmp
  go_enter Tryz.func130,Tryz.ntmps130
  go_wp2
  refine op_region _ sb so (m+2) c x y (Od.sept (40*x+y)) w _ _ rfl rfl (by omega) (fun W hW=>HC0.out W hW) (fun W hW=>HC1.out W hW) ?_ ?_ (fun W hW=>(HS.out _ (by omega) W).mono (fun e w' ⟨u,h1,h2⟩=>⟨u,h1,h2.grown,by
   obtain ⟨g1,g2⟩:=h2
   exact ownsRow_base g2 hW.size⟩)) ⟨rfl,rfl,rfl,Nat.le_refl _,fun _ _ _=>rfl⟩ (fun us w3 out hg3 hO3=>?_)
  ·simp only[IntKind.wrap,IntKind.bits,IntKind.signed]
   simp
   omega
  ·simp only[IntKind.wrap,IntKind.bits,IntKind.signed]
   simp
   omega
  simp only[fill_cons,fill_nil,Act.put,List.setIfInBounds_toArray,List.set_cons_succ,List.set_cons_zero]
  have F3:Hid (FrW w w3 out (Od.sept (40*x+y))):=hid ⟨hg3,hO3⟩
  obtain ⟨S0,hS0⟩:∃ S0,S0=Od.sept (40*x+y):=⟨_,rfl⟩
  have HS0:Hid (S0.length≤6):=hid (by rw[hS0];exact HSl.out _)
  rw[←hS0] at F3 HPut
  have FS:Hid (FrW w w3 out (S0++Od.rest (r.take 0))):=hid (by rw[show Od.rest (r.take 0)=[] from rfl,List.append_nil];exact F3.out)
  clear hg3 hO3 hS0
  go_wp2
  go_loopw [3,18] (fun o i wr=>∃ k:Nat,k≤m∧i=.int .i64 k∧FrW w wr o (S0++Od.rest (r.take k))) (fun _ i _=>m-(intOf i).toNat)
  case atStart=>exact ⟨0,by omega,rfl,FS.out⟩
  case round =>
   obtain ⟨k,hk,rfl,hF⟩:=hrel
   have HF:=hid hF
   clear hF
   obtain rfl:k=m:=by have:=HM0.out;omega
   go_wp2
   go_ret
   exact ⟨_,rfl,by rw[HPut.out,←HRe.out];exact HF.out⟩
 ·have hsub1:=HA1.out hmp
  rw[hsub1] at hsub
  go_enter Tryz.func130,Tryz.ntmps130
  go_wp2
  refine op_region _ sb so (m+2) c x y (Od.sept (40*x+y)) w _ _ rfl rfl (by omega) (fun W hW=>HC0.out W hW) (fun W hW=>HC1.out W hW) ?_ ?_ (fun W hW=>(HS.out _ (by omega) W).mono (fun e w' ⟨u,h1,h2⟩=>⟨u,h1,h2.grown,by
   obtain ⟨g1,g2⟩:=h2
   exact ownsRow_base g2 hW.size⟩)) ⟨rfl,rfl,rfl,Nat.le_refl _,fun _ _ _=>rfl⟩ (fun us w3 out hg3 hO3=>?_)
  ·simp only[IntKind.wrap,IntKind.bits,IntKind.signed]
   simp
   omega
  ·simp only[IntKind.wrap,IntKind.bits,IntKind.signed]
   simp
   omega
  simp only[fill_cons,fill_nil,Act.put,List.setIfInBounds_toArray,List.set_cons_succ,List.set_cons_zero]
  have F3:Hid (FrW w w3 out (Od.sept (40*x+y))):=hid ⟨hg3,hO3⟩
  obtain ⟨S0,hS0⟩:∃ S0,S0=Od.sept (40*x+y):=⟨_,rfl⟩
  have HS0:Hid (S0.length≤6):=hid (by rw[hS0];exact HSl.out _)
  rw[←hS0] at F3 HPut
  have FS:Hid (FrW w w3 out (S0++Od.rest (r.take 0))):=hid (by rw[show Od.rest (r.take 0)=[] from rfl,List.append_nil];exact F3.out)
  clear hg3 hO3 hS0
  go_wp2
  go_loopw [3,18] (fun o i wr=>∃ k:Nat,k≤m∧i=.int .i64 k∧FrW w wr o (S0++Od.rest (r.take k))) (fun _ i _=>m-(intOf i).toNat)
  case atStart=>exact ⟨0,by omega,rfl,FS.out⟩
  case round =>
   obtain ⟨k,hk,rfl,hF⟩:=hrel
   have HF:=hid hF
   clear hF
   by_cases hkm:k<m
   ·have hck:=HCr.out _ HF.out.grown k hkm
    obtain ⟨u,hu,hu2⟩:=HRn.out k hkm
    have hrt:=HRt.out k hkm
    rw[hu] at hck hrt
    rw[Int.toNat_natCast] at hrt
    have HRt2:=hid hrt
    have hlen1:=HRl.out k
    have HLn:Hid ((S0++Od.rest (r.take k)).length≤6+6*k):=hid (by rw[List.length_append];have:=HS0.out;omega)
    have HSu:=hid (HS.out u (by omega))
    have HSl2:=hid (HSl.out u)
    have HSt2:=hid (HSt.out u)
    generalize Od.sept u=S at *
    generalize hAcc:S0++Od.rest (r.take k)=acc at *
    have HAcc:=hid hAcc
    clear hrt hu hlen1 hAcc
    go_wp2_with (first
     |(go_at_call 167;refine (HSu.out _).mono ?_;rintro e w4 ⟨v4,rfl,hF4⟩;have F4:=hid hF4;have HF':Hid (FrW w w4 u3 acc):=hid ⟨grown_trans HF.out.grown hF4.grown,HF.out.own.kept hF4.grown (Classical.em _)⟩;obtain ⟨a4,_,c4,rfl,_⟩:=ownsRow_form hF4.own;clear hF4)
     |(at_builtin;refine wpList_appB (by rfl) (.tmp 22) (.tmp 24) 27 (by rfl) w.heap.size 5 (.int .u8 0) 1 Tryz.underlying27 (by kernel_rfl) rfl (by decide) _ acc.length (cellsL acc) (by rfl) HF'.out.own _ S (by rfl) (Bytes.own F4.out.own HSt2.out) (Whole0.own F4.out.own) (by have:=HLn.out;have:=HSl2.out;omega) HF'.out.le ?_;intro v5 w5 ho5 hg5;have F5:=hid (HF'.out.step (l':=acc++S) ho5 hg5 (cellsL_append _ _).symm);clear ho5 hg5))
    go_roundw
    case rel=>exact ⟨k+1,by omega,by go_num,by rw[HRt2.out,←List.append_assoc,HAcc.out];exact F5.out⟩
    case measure=>simp[intOf];omega
   ·obtain rfl:k=m:=by omega
    go_wp2
    go_ret
    exact ⟨_,rfl,by rw[HPut.out,←HRe.out];exact HF.out⟩
end Go.Proofs.YtjjbkpjjmbfdhaaGreatDoor
namespace Go.Proofs.YtjjbkpjjmbfdhaaGreatDoor
open Lib (hid)
namespace Od
def hiF:Nat→Nat→List Nat
 |0,_=>[]
 |f+1,m=>if m=0 then [] else hiF f (m/128)++[m%128+128]
def hi (m:Nat):List Nat:=hiF 10 m
def sval (l:List Nat):Nat:=l.foldl (fun a c=>a*128+c%128) 0
theorem sval_snoc (l:List Nat) (c:Nat):sval (l++[c])=sval l*128+c%128:=by simp[sval]
def piece:List Nat→Option (List Nat×List Nat)
 |[]=>none
 |c :: r=>if c<128 then some ([c],r) else match piece r with
  |none=>none
  |some (p,t)=>some (c :: p,t)
theorem piece_of:∀ (h:List Nat) (d:Nat) (t:List Nat),(∀ c∈h,128≤c)→d<128→piece (h++[d]++t)=some (h++[d],t)
 |[],d,t,_,hd=>by simp[piece,hd]
 |c :: r,d,t,hh,hd=>by
  have h1:=hh c (by simp)
  rw[List.cons_append,List.cons_append,piece,if_neg (by omega),piece_of r d t (fun x hx=>hh x (by simp[hx])) hd]
def nums:Nat→Nat→List Nat→Except Nat (List Nat)
 |_,_,[]=>.ok []
 |0,_,_ :: _=>.error 0
 |f+1,most,c :: l=>match piece (c :: l) with
  |none=>.error 2
  |some (p,t)=>if p.head?=some 128 then .error 4 else if most<sval p then .error 1 else match nums f 2147483647 t with
   |.error k=>.error k
   |.ok r=>.ok (sval p :: r)
def firstOf (n:Nat):Nat:=if n<40 then 0 else if n<80 then 1 else 2
def get (l:List Nat):Except Nat (List Int) :=
 match nums l.length 2147483727 l with
 |.error k=>.error k
 |.ok []=>.error 2
 |.ok (n :: r) =>
  let a:List Int:=(firstOf n:Nat) :: ((n-40*firstOf n:Nat):Int) :: r.map fun (m:Nat)=>(m:Int)
  if right a=true then .ok a else .error 1
end Od
end Go.Proofs.YtjjbkpjjmbfdhaaGreatDoor
namespace Go.Proofs.YtjjbkpjjmbfdhaaGreatDoor
open Lib (hid)
open Go.RowKit
namespace Cal
def pairs (d:Date):List Nat:=[d.Y/100,d.Y%100,d.M,d.D,d.h,d.mi,d.s]
def twos:List Nat→List Nat
 |[]=>[]
 |p :: r=>two p++twos r
theorem twos_snoc:∀ (l:List Nat) (p:Nat),twos (l++[p])=twos l++two p
 |[],p=>by simp[twos]
 |q :: r,p=>by rw[List.cons_append,twos,twos_snoc r p,twos,List.append_assoc]
theorem twos_len:∀ l:List Nat,(twos l).length=2*l.length
 |[]=>rfl
 |q :: r=>by rw[twos,List.length_append,twos_len r,List.length_cons];simp[two];omega
theorem text_twos (d:Date):text d=twos (pairs d)++[90]:=rfl
theorem take_pairs (l:List Nat) (j:Nat) (h:j<l.length):l.take (j+1)=l.take j++[l.getD j 0]:=by
 rw[List.take_add_one,List.getElem?_eq_getElem h,List.getD_eq_getElem?_getD,List.getElem?_eq_getElem h];rfl
theorem pairs_lt {d:Date} (h:Right d):∀ j,(pairs d).getD j 0<100:=by
 obtain ⟨⟨y1,y2⟩,⟨m1,m2⟩,⟨d1,d2⟩,h1,mi1,s1⟩:=h
 have hd31:=(days_pos (y:=d.Y) m1 m2).2
 intro j
 match j with
 |0=>show d.Y/100<100;omega
 |1=>show d.Y%100<100;omega
 |2=>show d.M<100;omega
 |3=>show d.D<100;omega
 |4=>show d.h<100;omega
 |5=>show d.mi<100;omega
 |6=>show d.s<100;omega
 |n+7=>exact Nat.zero_lt_succ _
theorem twos_lt {l:List Nat} (h:∀ x∈l,x<100):∀ x∈twos l,x<256:=by
 induction l with
 |nil=>intro x hx;cases hx
 |cons p r ih =>
  intro x hx
  rw[twos,List.mem_append] at hx
  rcases hx with hx|hx
  ·have:=h p (List.mem_cons_self ..)
   simp only[two,List.mem_cons,List.not_mem_nil,or_false] at hx
   omega
  ·exact ih (fun y hy=>h y (List.mem_cons_of_mem _ hy)) x hx
end Cal
theorem two_bytes {p:Nat} (hp:p<100) (w:World) (a b:Int) (ha:a=((48+p/10:Nat):Int)) (hb:b=((48+p%10:Nat):Int)):Bytes (w.alloc (.cells #[.int .u8 a,.int .u8 b] 5)) (.slice (some ⟨w.heap.size,0,none⟩) 2 2) (Cal.two p):=by
 subst ha hb
 exact Bytes.lit (l:=Cal.two p) (alloc_at w _) (by intro x hx;simp only[Cal.two,List.mem_cons,List.not_mem_nil,or_false] at hx;omega)
theorem own_ne {v v':Value} {n k:Nat} (h:v'.ownBlock=v.ownBlock∨v'.ownBlock=some n) (h1:v.ownBlock≠some k) (h2:n≠k):v'.ownBlock≠some k:=by
 rcases h with h|h
 ·rw[h];exact h1
 ·rw[h];exact fun e=>h2 (Option.some.inj e)
theorem refMText_any (d:Cal.Date) (hd:Cal.Right d) (w:World):Calls Tryz.prog 131 #[dV d.toI] w fun e w'=>∃ v,e=.returned v∧FrW w w' v (Cal.text d):=by
 have HT:=hid (Cal.text_twos d)
 have HPl:Hid ((Cal.pairs d).length=7):=hid rfl
 have HPt:=hid (Cal.take_pairs (Cal.pairs d))
 have HP1:=hid (Cal.pairs_lt hd)
 have HP0:Hid ((Cal.pairs d).map (fun (x:Nat)=>Value.int .i64 (x:Int))=[.int .i64 ((d.Y:Int)/100),.int .i64 ((d.Y:Int)%100),.int .i64 (d.M:Int),.int .i64 (d.D:Int),.int .i64 (d.h:Int),.int .i64 (d.mi:Int),.int .i64 (d.s:Int)]):=hid (by simp only[Cal.pairs,List.map_cons,List.map_nil,Int.natCast_ediv,Int.natCast_emod];rfl)
 obtain ⟨P,hP⟩:∃ P,P=Cal.pairs d:=⟨_,rfl⟩
 rw[←hP] at HT HPl HPt HP1 HP0
 obtain ⟨TX,hTX⟩:∃ TX,TX=Cal.text d:=⟨_,rfl⟩
 rw[←hTX] at HT ⊢
 obtain ⟨⟨y1,y2⟩,⟨m1,m2⟩,⟨d1,d2⟩,h1,mi1,s1⟩:=hd
 clear hP hTX d1 d2 m1 m2 h1 mi1 s1
 obtain ⟨Y,M,D,h,mi,s⟩:=d
 simp only[Cal.Date.toI] at y1 y2 HP0 ⊢
 have F0:Hid (FrW w (((w.alloc (.cells #[.int .i64 (Y:Int),.int .i64 (M:Int),.int .i64 (D:Int),.int .i64 (h:Int),.int .i64 (mi:Int),.int .i64 (s:Int)] 189)).alloc (.cells #[] 5)).alloc (.cells #[.int .i64 ((Y:Int)/100),.int .i64 ((Y:Int)%100),.int .i64 (M:Int),.int .i64 (D:Int),.int .i64 (h:Int),.int .i64 (mi:Int),.int .i64 (s:Int)] 3)) (.slice (some ⟨w.heap.size+1,0,none⟩) 0 0) []):=hid (by
  refine FrW.alloc ⟨grown_alloc (World.grownBy_alloc _ _ _) _,?_⟩ _
  have:=ownsRow_lit (base:=w.heap.size) (alloc_at (w.alloc (.cells #[.int .i64 (Y:Int),.int .i64 (M:Int),.int .i64 (D:Int),.int .i64 (h:Int),.int .i64 (mi:Int),.int .i64 (s:Int)] 189)) (.cells #[] 5)) (by rw[World.size_alloc];omega) (by simp)
  rw[World.size_alloc] at this
  exact this)
 have HW:∃ W0:World,W0=(((w.alloc (.cells #[.int .i64 (Y:Int),.int .i64 (M:Int),.int .i64 (D:Int),.int .i64 (h:Int),.int .i64 (mi:Int),.int .i64 (s:Int)] 189)).alloc (.cells #[] 5)).alloc (.cells #[.int .i64 ((Y:Int)/100),.int .i64 ((Y:Int)%100),.int .i64 (M:Int),.int .i64 (D:Int),.int .i64 (h:Int),.int .i64 (mi:Int),.int .i64 (s:Int)] 3)):=⟨_,rfl⟩
 have HRow:Hid ((((w.alloc (.cells #[.int .i64 (Y:Int),.int .i64 (M:Int),.int .i64 (D:Int),.int .i64 (h:Int),.int .i64 (mi:Int),.int .i64 (s:Int)] 189)).alloc (.cells #[] 5)).alloc (.cells #[.int .i64 ((Y:Int)/100),.int .i64 ((Y:Int)%100),.int .i64 (M:Int),.int .i64 (D:Int),.int .i64 (h:Int),.int .i64 (mi:Int),.int .i64 (s:Int)] 3)).heap[w.heap.size+2]?=some (.cells (P.map (fun (x:Nat)=>Value.int .i64 (x:Int))).toArray 3 (0,0))):=hid (by
  have:=alloc_at ((w.alloc (.cells #[.int .i64 (Y:Int),.int .i64 (M:Int),.int .i64 (D:Int),.int .i64 (h:Int),.int .i64 (mi:Int),.int .i64 (s:Int)] 189)).alloc (.cells #[] 5)) (.cells #[.int .i64 ((Y:Int)/100),.int .i64 ((Y:Int)%100),.int .i64 (M:Int),.int .i64 (D:Int),.int .i64 (h:Int),.int .i64 (mi:Int),.int .i64 (s:Int)] 3)
  rw[World.size_alloc,World.size_alloc] at this
  rw[this,HP0.out])
 obtain ⟨W0,hW0⟩:=HW
 have hW0':=hW0
 rw[←hW0] at F0 HRow
 have HW0:=hid hW0'
 clear hW0 hW0'
 go_enter Tryz.func131,Tryz.ntmps131
 go_wp2
 rw[←HW0.out]
 go_loopw [25,3,5] (fun i v _ wr=>∃ j:Nat,j≤7∧i=.int .i64 ((j:Nat):Int)∧FrW w wr v (Cal.twos (P.take j))∧wr.heap[w.heap.size+2]?=some (.cells (P.map (fun (x:Nat)=>Value.int .i64 (x:Int))).toArray 3 (0,0))∧v.ownBlock≠some (w.heap.size+2)) (fun i _ _ _=>7-(intOf i).toNat)
 case atStart=>exact ⟨0,by omega,rfl,F0.out,HRow.out,by intro h;simp[Value.ownBlock] at h⟩
 case round =>
  obtain ⟨j,hj,rfl,hF,hr,hne⟩:=hrel
  have HF:=hid hF
  have HR:=hid hr
  have HNe:=hid hne
  by_cases hj7:j<7
  ·have hjP:j<P.length:=by rw[HPl.out];exact hj7
   have hcell:wr.cell? ⟨w.heap.size+2,j,none⟩=some (.int .i64 ((P.getD j 0:Nat):Int)):=cell_blk hr j (by simp[hjP])
   have HTk:=hid (by
    have:=HPt.out j hjP
    exact this)
   have hp:=HP1.out j
   generalize P.getD j 0=p at *
   have HNx:Hid (Cal.twos (P.take (j+1))=Cal.twos (P.take j)++Cal.two p):=hid (by rw[HTk.out,Cal.twos_snoc])
   have HLn:Hid ((Cal.twos (P.take j)).length≤14):=hid (by rw[Cal.twos_len,List.length_take];omega)
   clear hF hr hne hjP HTk
   go_wp2_with (at_builtin;refine wpList_appB2 (by rfl) (.tmp 29) (.tmp 38) 27 (by rfl) w.heap.size 5 (.int .u8 0) 1 Tryz.underlying27 (by kernel_rfl) rfl (by decide) _ _ _ (by rfl) (HF.out.own.alloc _) _ (Cal.two p) (by rfl) (two_bytes hp _ _ _ (by omega) (by omega)) (Whole0.some _ _ _) (by have:=HLn.out;simp only[Cal.two,List.length_cons,List.length_nil];omega) (by have:=HF.out.le;rw[alloc_size];omega) ?_;intro v3 w3 ho3 hg3 hb3;have HH:=hid ((HF.out.alloc _).step (l':=Cal.twos (P.take (j+1))) ho3 hg3 (by rw[HNx.out];exact (cellsL_append _ _).symm));have HR3:=hid ((hg3.block _ (by rw[alloc_size];have:=blk_lt HR.out;omega) (fun e=>HNe.out e.symm)).trans ((Below.heap_alloc _ _ _ (by have:=blk_lt HR.out;omega)).trans HR.out));have HN3:=hid (own_ne hb3 HNe.out (by rw[alloc_size];have:=blk_lt HR.out;omega));clear ho3 hg3 hb3)
   go_roundw
   case rel=>exact ⟨j+1,by omega,by go_num,HH.out,HR3.out,HN3.out⟩
   case measure=>simp[intOf];omega
  ·obtain rfl:j=7:=by omega
   have HL:Hid (Cal.twos (P.take 7)=Cal.twos P):=hid (by rw[List.take_of_length_le (by rw[HPl.out];exact Nat.le_refl _)])
   rw[HL.out] at HF
   have HLn:Hid ((Cal.twos P).length=14):=hid (by rw[Cal.twos_len,HPl.out])
   clear hF hr hne
   go_wp2_with (at_builtin;refine wpList_appB (by rfl) (.tmp 41) (.tmp 42) 27 (by rfl) w.heap.size 5 (.int .u8 0) 1 Tryz.underlying27 (by kernel_rfl) rfl (by decide) _ _ _ (by rfl) (HF.out.own.alloc _) _ [90] (by rfl) (Bytes.lit (alloc_at _ _) (by decide)) (Whole0.some _ _ _) (by have:=HLn.out;simp only[List.length_cons,List.length_nil];omega) (by have:=HF.out.le;rw[alloc_size];omega) ?_;intro v3 w3 ho3 hg3;have HH:=hid ((HF.out.alloc _).step (l':=TX) ho3 hg3 (by rw[HT.out];exact (cellsL_append _ _).symm));clear ho3 hg3)
   go_ret
   exact ⟨_,rfl,HH.out⟩
end Go.Proofs.YtjjbkpjjmbfdhaaGreatDoor
namespace Go.Proofs.YtjjbkpjjmbfdhaaGreatDoor
open Lib (hid)
namespace Od
theorem sval_take (l:List Nat) (j:Nat) (h:j<l.length):sval (l.take (j+1))=sval (l.take j)*128+l.getD j 0%128:=by
 rw[List.take_succ_eq_append_getElem h,sval_snoc,List.getD_eq_getElem?_getD,List.getElem?_eq_getElem h]
 rfl
def mostAt (k:Nat):Nat:=if k=0 then 2147483727 else 2147483647
structure GS (b:List Nat) (k:Nat) (ns:List Nat):Prop where
 le:k≤b.length
 few:ns.length≤k
 any:0<k→ns≠[]
 lim:∀ n∈ns,n≤2147483727
 now:∃ f,(b.drop k).length≤f∧nums b.length 2147483727 b=(match nums f (mostAt k) (b.drop k) with | .error e=>.error e | .ok r=>.ok (ns++r))
def nstep (g most:Nat) (l:List Nat):Except Nat (List Nat):=match piece l with
 |none=>.error 2
 |.some (p,t)=>if p.head?=.some 128 then .error 4 else if most<sval p then .error 1 else match nums g 2147483647 t with
  |.error k=>.error k
  |.ok r=>.ok (sval p :: r)
def behind (ns:List Nat):Except Nat (List Nat)→Except Nat (List Nat)
 |.error e=>.error e
 |.ok r=>.ok (ns++r)
theorem GS.at_ {b:List Nat} {k:Nat} {ns:List Nat} (h:GS b k ns) (hk:k<b.length):∃ g,nums b.length 2147483727 b=behind ns (nstep g (mostAt k) (b.drop k))∧(b.drop k).length≤g+1:=by
 obtain ⟨f,h1,h2⟩:=h.now
 have hl:(b.drop k).length=b.length-k:=List.length_drop
 obtain ⟨g,rfl⟩:∃ g,f=g+1:=⟨f-1,by omega⟩
 refine ⟨g,?_,h1⟩
 rw[h2]
 cases hd:b.drop k with
 |nil=>rw[hd] at hl;simp at hl;omega
 |cons c r =>
  rw[nums]
  unfold nstep behind
  rfl
theorem piece_at {l:List Nat} {q:Nat} (hq:q<l.length) (hlo:∀ j,j<q→¬ l.getD j 0<128) (hhi:l.getD q 0<128):piece l=some (l.take (q+1),l.drop (q+1)):=by
 have h1:=piece_of (l.take q) (l.getD q 0) (l.drop (q+1)) (fun c hc=>by
  obtain ⟨j,hj,rfl⟩:=List.mem_iff_getElem.1 hc
  have hjq:j<q:=by rw[List.length_take] at hj;omega
  have:=hlo j hjq
  rw[List.getD_eq_getElem?_getD,List.getElem?_eq_getElem (by omega)] at this
  rw[List.getElem_take]
  exact Nat.le_of_not_lt this) hhi
 have e:l.take q++[l.getD q 0]=l.take (q+1):=by
  rw[List.take_succ_eq_append_getElem hq,List.getD_eq_getElem?_getD,List.getElem?_eq_getElem hq]
  rfl
 rw[e,List.take_append_drop] at h1
 exact h1
theorem GS.no_head {l:List Nat} {q:Nat} (h4:l.getD 0 0≠128):(l.take (q+1)).head?≠some 128:=by
 cases l with
 |nil=>simp
 |cons c r=>simpa using h4
theorem GS.range {b:List Nat} {k q:Nat} {ns:List Nat} (h:GS b k ns) (hk:k+q<b.length) (hlo:∀ j,j<q→¬ (b.drop k).getD j 0<128) (hhi:(b.drop k).getD q 0<128) (h4:(b.drop k).getD 0 0≠128) (hm:mostAt k<sval ((b.drop k).take (q+1))):nums b.length 2147483727 b=.error 1:=by
 obtain ⟨g,hg,_⟩:=h.at_ (by omega)
 have hl:(b.drop k).length=b.length-k:=List.length_drop
 rw[hg]
 unfold nstep
 rw[piece_at (by omega) hlo hhi]
 simp only[]
 rw[if_neg (GS.no_head h4),if_pos hm]
 rfl
theorem GS.next {b:List Nat} {k q:Nat} {ns:List Nat} (h:GS b k ns) (hk:k+q<b.length) (hlo:∀ j,j<q→¬ (b.drop k).getD j 0<128) (hhi:(b.drop k).getD q 0<128) (h4:(b.drop k).getD 0 0≠128) (hm:sval ((b.drop k).take (q+1))≤mostAt k):GS b (k+q+1) (ns++[sval ((b.drop k).take (q+1))]):=by
 obtain ⟨g,hg,hgl⟩:=h.at_ (by omega)
 have hl:(b.drop k).length=b.length-k:=List.length_drop
 have hm2:mostAt k≤2147483727:=by unfold mostAt;split <;> omega
 refine ⟨by omega,by have:=h.few;simp;omega,fun _=>by simp,fun n hn=>?_,g,by rw[List.length_drop];omega,?_⟩
 ·rcases List.mem_append.1 hn with hn|hn
  ·exact h.lim n hn
  ·rw[List.mem_singleton] at hn;omega
 rw[hg]
 unfold nstep
 rw[piece_at (by omega) hlo hhi]
 simp only[]
 rw[if_neg (GS.no_head h4),if_neg (by omega),List.drop_drop,show k+(q+1)=k+q+1 by omega,show mostAt (k+q+1)=2147483647 from if_neg (by omega)]
 cases nums g 2147483647 (b.drop (k+q+1)) with
 |error e=>rfl
 |ok r=>simp[behind]
structure GN (p:List Nat) (most j n:Nat):Prop where
 lim:n≤281474976710656
 same:n≤most→n=sval (p.take j)
 over:most<n→most<sval (p.take j)
theorem GN.add {p:List Nat} {most j n:Nat} (h:GN p most j n) (hj:j<p.length) (hm:most≤2147483727) (hn:n≤most):GN p most (j+1) (n*128+p.getD j 0%128):=by
 have e:=h.same hn
 have hs:=sval_take p j hj
 have:p.getD j 0%128<128:=Nat.mod_lt _ (by decide)
 exact ⟨by omega,fun _=>by rw[hs,←e],fun h2=>by rw[hs,←e];exact h2⟩
end Od
end Go.Proofs.YtjjbkpjjmbfdhaaGreatDoor
