import Derived.Test.YtjjbkpjjmbfdhaaGreatDoorZb03
import Derived.Test.YtjjbkpjjmbfdhaaGreatDoorZb11
import Derived.Test.YtjjbkpjjmbfdhaaGreatDoorZb37
import Derived.Test.YtjjbkpjjmbfdhaaGreatDoorZb38
import Derived.Deep.RegionLaw
import Derived.Lib.SliceRun
import Derived.Laws.IdiomCopy
set_option linter.unusedVariables false
set_option linter.unusedSimpArgs false
set_option maxRecDepth 100000
set_option maxHeartbeats 16000000
namespace Go.Proofs.YtjjbkpjjmbfdhaaGreatDoor
open Lib (hid)
open Go.RowKit Bu
section
variable {P:Program}
theorem run_clearN (w:World) (t e ty:TypeId) (z:Value) (Z:List Value) (ht:P.underlying t=some (.slice e)) (hv:∀ w,(zeroValue e).run P w=.ok z w) (hz:z.cells=Z.toArray) (h1:∀ u∈Z,u.oneCell'=true) (b o c:Nat)
  (hc:∀ j,j<Z.length→(w.cell? ⟨b,o+j,none⟩).isSome=true) (hf:∀ j,j<Z.length→w.frozen? ⟨b,o+j,none⟩=false) :
  (Builtin.clear_ #[t] ty #[.slice (some ⟨b,o,none⟩) 1 c]).run P w=.ok (.tuple #[]) (w.setCells b o Z):=by
 have hzc:(Builtin.zeroCells z.cells 1).toList=Z:=by
  rw[hz]
  simp[Builtin.zeroCells]
  apply List.ext_getElem
  ·simp
  ·intro i h1 h2
   have h3:i%Z.length=i:=Nat.mod_eq_of_lt h2
   simp[h3,h2]
 have hst:=run_storeCells_cells (P:=P) b o Z 0 w (by simpa using hc) (by simpa using hf) h1
 simp only[Nat.add_zero] at hst
 simp[Builtin.clear_,run_underlying ht,hv,hzc,hst]
end
def subP (a:Option Addr) (k c:Nat):Option Addr:=if c=k then a else a.map (·.add (k*4))
theorem elemPn:Tryz.prog.underlying 22=some (.slice (Tryz.prog.elem 22)):=by kernel_rfl
theorem sizePn (w:World):(sizeOf (Tryz.prog.elem 22)).run Tryz.prog w=.ok 4 w:=by kernel_rfl
@[go_sem high] theorem run_fromPn (w:World) (a:Option Addr) (n c:Nat) (i:Int) (h0:0≤i) (h1:i≤n) :
  (Instr.slice 22 (.slice a n c) (some (.int .i64 i)) none none).run Tryz.prog w=.ok (.slice (subP a i.toNat c) (n-i.toNat) (c-i.toNat)) w:=by
 rw[run_slice_l w 22 a n c elemPn .i64 i h0 h1,sizePn]
 simp only[Result.andThen,sliced,subP]
@[go_sem high] theorem run_toPn (w:World) (a:Option Addr) (n c:Nat) (i:Int) (h0:0≤i) (h1:i≤c) :
  (Instr.slice 22 (.slice a n c) none (some (.int .i64 i)) none).run Tryz.prog w=.ok (.slice a i.toNat c) w:=by
 have hadd:∀ x:Addr,x.add 0=x:=fun x=>by unfold Addr.add;split <;> simp_all
 rw[run_slice_h w 22 a n c elemPn .i64 i h0 h1,sizePn]
 simp only[Result.andThen,sliced,Nat.zero_mul,Nat.sub_zero]
 congr 2
 split
 ·rfl
 ·cases a
  ·rfl
  ·simp[hadd]
@[go_sem high] theorem run_lhPn (w:World) (a:Option Addr) (n c:Nat) (i j:Int) (h0:0≤i) (h1:i≤j) (h2:j≤c) :
  (Instr.slice 22 (.slice a n c) (some (.int .i64 i)) (some (.int .i64 j)) none).run Tryz.prog w=.ok (.slice (subP a i.toNat c) (j.toNat-i.toNat) (c-i.toNat)) w:=by
 rw[run_slice_lh w 22 a n c elemPn .i64 .i64 i j h0 h1 h2,sizePn]
 simp only[Result.andThen,sliced,subP]
@[go_sem high] theorem run_lhmPn (w:World) (a:Option Addr) (n c:Nat) (i j m:Int) (h0:0≤i) (h1:i≤j) (h2:j≤m) (h3:m≤c) :
  (Instr.slice 22 (.slice a n c) (some (.int .i64 i)) (some (.int .i64 j)) (some (.int .i64 m))).run Tryz.prog w=.ok (.slice (subP a i.toNat m.toNat) (j.toNat-i.toNat) (m.toNat-i.toNat)) w:=by
 rw[run_slice_lhm w 22 a n c elemPn .i64 .i64 .i64 i j m h0 h1 h2 h3,sizePn]
 simp only[Result.andThen,sliced,subP]
def zAn:List Value:=[.int .i64 0,.string ⟨#[]⟩,.int .i64 0,.int .i64 0]
theorem zAn_zero (w:World):(zeroValue 48).run Tryz.prog w=.ok (.agg #[.int .i64 0,.string ⟨#[]⟩,.int .i64 0,.int .i64 0]) w:=by kernel_rfl
theorem an_full':(Tryz.prog.info? 48).map (fun i=>(i.zero,i.size,i.bytes))=some (some (.agg #[.int .i64 0,.string ⟨#[]⟩,.int .i64 0,.int .i64 0]),4,40):=by kernel_rfl
theorem subP_own (g k c:Nat):subP (some ⟨g,0,none⟩) k c=some ⟨g,if c=k then 0 else k*4,none⟩:=by
 unfold subP
 split
 ·rfl
 ·rw[Option.map_some,addr_addO,Nat.zero_add]
theorem anDelete_any (base g c i:Nat) (l:List An) (w:World) (h:w.ownsRow base 48 4 (.slice (some ⟨g,0,none⟩) l.length c) l.length (cellsA l)) (hi:i<l.length) (hl:l.length≤2000) :
  Calls Tryz.prog 53 #[.slice (some ⟨g,0,none⟩) l.length c,.int .i64 i,.int .i64 ((i:Int)+1)] w fun e w'=>e=.returned (.slice (some ⟨g,0,none⟩) (l.length-1) c)∧w'.ownsRow base 48 4 (.slice (some ⟨g,0,none⟩) (l.length-1) c) (l.length-1) (cellsA (l.take i++l.drop (i+1)))∧w.grownBy w' (some g):=by
 obtain ⟨g',cap,cur,hv,hb,hg,hnc,hcm,hcs,htake⟩:=h.2.resolve_left (fun h=>by have:=h.1;cases this)
 simp only[Value.slice.injEq,Option.some.injEq,Addr.mk.injEq,and_true,true_and] at hv
 obtain ⟨rfl,rfl⟩:=hv
 clear h
 obtain ⟨i0,hi0,_,hz0,_⟩:=info_parts an_full'
 -- the row's cells,parted
 obtain ⟨R,hR⟩:∃ R,R=cur.toList.drop (l.length*4):=⟨_,rfl⟩
 have hcur:cur=(cellsA l++R).toArray:=by rw[hR,←htake,List.take_append_drop]
 have hRl:R.length=(c-l.length)*4:=by
  rw[hR,List.length_drop,Array.length_toList,hcs,Nat.sub_mul]
 obtain ⟨T,hT⟩:∃ T,T=cellsA (l.take i):=⟨_,rfl⟩
 obtain ⟨D,hD⟩:∃ D,D=cellsA (l.drop (i+1)):=⟨_,rfl⟩
 obtain ⟨E,hE⟩:∃ E,E=cellsA (l.drop i):=⟨_,rfl⟩
 have hTl:T.length=i*4:=by rw[hT,cellsA_len,List.length_take];congr 1;omega
 have hDl:D.length=(l.length-(i+1))*4:=by rw[hD,cellsA_len,List.length_drop]
 have hEl:E.length=(l.length-i)*4:=by rw[hE,cellsA_len,List.length_drop]
 have hTE:cellsA l=T++E:=by rw[hT,hE,←cellsA_app,List.take_append_drop]
 have hTD:cellsA (l.take i++l.drop (i+1))=T++D:=by rw[hT,hD,←cellsA_app]
 have hone:∀ u∈D,u.oneCell'=true:=by rw[hD];exact cellsA_one _
 have hED:∀ j u,D[j]?=some u→(cellsA l)[(i+1)*4+j]?=some u:=fun j u hj=>by
  rw[hD,←cellsA_drop,List.getElem?_drop] at hj
  exact hj
 obtain ⟨M,hM⟩:∃ M,M=E.take D.length:=⟨_,rfl⟩
 obtain ⟨O,hO⟩:∃ O,O=E.drop D.length++R:=⟨_,rfl⟩
 have hMl:M.length=D.length:=by rw[hM,List.length_take,hEl,hDl];omega
 have hOl:O.length=4+R.length:=by rw[hO,List.length_append,List.length_drop,hEl,hDl];omega
 have hall:cellsA l++R=T++M++O:=by rw[hTE,hM,hO,List.append_assoc,List.append_assoc,←List.append_assoc (List.take _ _),List.take_append_drop]
 have hg0:w.drew.heap[g]?=some (.cells (T++M++O).toArray 48 (0,0)):=by show w.heap[g]?=_;rw[hg,hcur,hall]
 obtain ⟨W1,hW1⟩:∃ W1,W1=w.drew.setCells g (0+i*4) D:=⟨_,rfl⟩
 have hg1:W1.heap[g]?=some (.cells (T++D++O).toArray 48 (0,0)):=by
  have:=setCells_heap D T M O w.drew hg0 hMl
  rw[hTl] at this
  rw[hW1,Nat.zero_add];exact this
 obtain ⟨o4,O',hO4,hOO⟩:∃ o4 O',O=o4++O'∧o4.length=4:=⟨O.take 4,O.drop 4,(List.take_append_drop _ _).symm,by rw[List.length_take];omega⟩
 have hTDl:(T++D).length=(l.length-1)*4:=by rw[List.length_append,hTl,hDl];omega
 obtain ⟨W2,hW2⟩:∃ W2,W2=W1.setCells g ((l.length-1)*4) zAn:=⟨_,rfl⟩
 have hg2:W2.heap[g]?=some (.cells (T++D++zAn++O').toArray 48 (0,0)):=by
  have:=setCells_heap zAn (T++D) o4 O' W1 (by rw[hg1,hO4,←List.append_assoc]) (by rw[hOO];rfl)
  rw[hTDl] at this
  rw[hW2];exact this
 have hgw:w.grownBy W2 (some g):=by
  rw[hW2,hW1]
  exact grown_setCells g (.inr rfl) _ _ _ (grown_setCells g (.inr rfl) _ _ _ (grown_drewN (grown_refl _ _) 1))
 have hown:W2.ownsRow base 48 4 (.slice (some ⟨g,0,none⟩) (l.length-1) c) (l.length-1) (cellsA (l.take i++l.drop (i+1))):=by
  rw[hTD]
  refine ⟨hTDl,.inr ⟨g,c,_,rfl,hb,hg2,by omega,hcm,?_,?_⟩⟩
  ·have:O'.length=R.length:=by have:=congrArg List.length hO4;rw[List.length_append,hOl,hOO] at this;omega
   rw[List.size_toArray,List.length_append,List.length_append,hTDl,this,hRl]
   show (l.length-1)*4+4+(c-l.length)*4=c*4
   omega
  ·rw[List.append_assoc,←hTDl]
   exact List.take_left
 have HFin:=hid (And.intro hown hgw)
 -- the append
 have hsrc:Hid (∀ j u,D[j]?=some u→w.drew.cell? (Addr.add ⟨g,if c=i+1 then 0 else (i+1)*4,none⟩ j)=some u):=hid (fun j u hj=>by
  have hjl:=(List.getElem?_eq_some_iff.1 hj).1
  rw[hDl] at hjl
  rw[if_neg (by omega),addr_addO]
  have h1:=hED j u hj
  show w.cell? _=_
  rw[hcur] at hg
  exact cell_blk hg ((i+1)*4+j) (by rw[List.getElem?_toArray,List.getElem?_append_left (List.getElem?_eq_some_iff.1 h1).1];exact h1))
 have s1:Hid (D.length=(l.length-(i+1))*4):=hid hDl
 have s2:=hid hone
 have s3:Hid (∀ t,t<D.length→(w.drew.cell? ⟨g,0+i*4+t,none⟩).isSome=true∧w.drew.frozen? ⟨g,0+i*4+t,none⟩=false):=hid (fun t ht=>by
  refine ⟨?_,free_blk hg _⟩
  have hlt:0+i*4+t<cur.size:=by rw[hcs];rw[hDl] at ht;omega
  show (w.cell? _).isSome=true
  rw[cell_blk hg (0+i*4+t) (Array.getElem?_eq_getElem hlt)]
  rfl)
 have hcl:∀ ty,(Builtin.clear_ #[22] ty #[.slice (some ⟨g,(i+(l.length-(i+1)))*4,none⟩) (l.length-(i+(l.length-(i+1)))) (c-(i+(l.length-(i+1))))]).run Tryz.prog W1=.ok (.tuple #[]) W2:=fun ty=>by
  have e1:i+(l.length-(i+1))=l.length-1:=by omega
  have e2:l.length-(l.length-1)=1:=by omega
  rw[e1,e2,hW2]
  refine run_clearN W1 22 48 ty _ zAn Tryz.underlying22 zAn_zero rfl (by intro u hu;simp[zAn] at hu;rcases hu with rfl|rfl|rfl <;> rfl) g ((l.length-1)*4) (c-(l.length-1)) (fun j hj=>?_) (fun j hj=>free_blk hg1 _)
  have hlt:(l.length-1)*4+j<(T++D++O).toArray.size:=by rw[List.size_toArray,List.length_append,hTDl,hOl];have:j<4:=hj;omega
  rw[cell_blk hg1 _ (Array.getElem?_eq_getElem hlt)]
  rfl
 have HW1:Hid (W1=w.drew.setCells g (0+i*4) D):=hid hW1
 obtain ⟨n,hn⟩:∃ n,n=l.length:=⟨_,rfl⟩
 rw[←hn] at hi hl hnc s1 hcl HFin ⊢
 have b1:(0:Int)≤(i:Int):=by omega
 have b2:(i:Int)≤(i:Int)+1:=by omega
 have b3:(i:Int)+1≤(n:Int):=by omega
 have b4:(n:Int)≤(c:Int):=by omega
 have b5:(0:Int)≤(i:Int)+1:=by omega
 have b6:(i:Int)≤(c:Int):=by omega
 have b7:((i:Int)+1).toNat=i+1:=by omega
 have b8:((i:Int)==(i:Int)+1)=false:=by rw[beq_eq_false_iff_ne];omega
 have b8':¬ (i:Int)=(i:Int)+1:=by omega
 have b9:(0:Int)≤((i+(n-(i+1)):Nat):Int):=by omega
 have b10:((i+(n-(i+1)):Nat):Int)≤(n:Int):=by omega
 have b11:((i+(n-(i+1)):Nat):Int).toNat=i+(n-(i+1)):=by omega
 have HN1:Hid (i+(n-(i+1))=n-1):=hid (by omega)
 clear hW1 hW2 hg0 hg1 hg2 hgw hown hall hM hO hMl hOl hO4 hOO hTDl hED hone hTE hTD hTl hDl hEl hT hD hE hR hcur hRl hg htake hcs hn
 have HI0:=hid hi0
 have HZ0:=hid hz0
 clear hi0 hz0
 go_enter Tryz.func53,Tryz.ntmps53
 go_wp2
 go_region_law (refine step_append_room rfl (.tmp 22) (.tmp 25) 22 rfl 48 i0 4 Tryz.underlying22 HI0.out HZ0.out g 0 i c (by simp[Act.eval,Act.put]) ⟨g,if c=i+1 then 0 else (i+1)*4,none⟩ (n-(i+1)) (c-(i+1)) D (by simp[Act.eval,Act.put,subP_own]) s1.out hsrc.out s2.out (by omega) s3.out ?_;rw[←HW1.out])
 go_wp2
 go_ret
 rw[HN1.out]
 exact ⟨rfl,HFin.out⟩
end Go.Proofs.YtjjbkpjjmbfdhaaGreatDoor
namespace Go.Proofs.YtjjbkpjjmbfdhaaGreatDoor
open Lib (hid)
open Go.RowKit Bu Go.Sort
instance:Inhabited An:=⟨an0⟩
theorem an_arr (l:List An) (i:Nat) (h:i<l.length):l.toArray[i]! = l.getD i an0:=by
 rw[getElem!_pos _ i (by simpa using h),List.getD_eq_getElem?_getD,List.getElem?_eq_getElem h]
 rfl
theorem an_holds {w:World} {g:Nat} {l:List An} (h:∀ j u,(cellsA l)[j]?=some u→w.cell? ⟨g,j,none⟩=some u) (hf:∀ j,w.frozen? ⟨g,j,none⟩=false):HoldsK An.cs 4 w g 0 l.toArray:=by
 intro t ht
 have ht4:t<l.toArray.size*4:=by simpa using ht
 have hl4:t<l.length*4:=by simpa using ht4
 refine ⟨?_,by rw[Nat.zero_add];exact hf t⟩
 rw[Nat.zero_add,get_flatK _ _ _ _ ht4,an_arr l (t/4) (by omega)]
 obtain ⟨k0,k1,k2,k3⟩:=cellsA_at l (t/4) (by omega)
 rcases (by omega:t%4=0∨t%4=1∨t%4=2∨t%4=3) with e|e|e|e <;> rw[e]
 ·rw[show t/4*4=t by omega] at k0;exact h t _ k0
 ·rw[show t/4*4+1=t by omega] at k1;exact h t _ k1
 ·rw[show t/4*4+2=t by omega] at k2;exact h t _ k2
 ·rw[show t/4*4+3=t by omega] at k3;exact h t _ k3
theorem an_cells {w:World} {g:Nat} {d:Array An} (h:HoldsK An.cs 4 w g 0 d):∀ j u,(cellsA d.toList)[j]?=some u→w.cell? ⟨g,j,none⟩=some u:=by
 intro t u hu
 have hl:t<(cellsA d.toList).length:=by
  rcases Nat.lt_or_ge t (cellsA d.toList).length with h1|h1
  ·exact h1
  ·rw[List.getElem?_eq_none h1] at hu;cases hu
 rw[cellsA_len] at hl
 have hi:t/4<d.size:=by have:d.toList.length=d.size:=(by simp);omega
 have hil:t/4<d.toList.length:=by simpa using hi
 have e0:d[t/4]! = d.toList.getD (t/4) an0:=by
  have:=an_arr d.toList (t/4) hil
  simpa using this
 obtain ⟨k0,k1,k2,k3⟩:=cellsA_at d.toList (t/4) hil
 have hc:=fun c (hc:c<4)=>(h.cell hi hc).1
 rcases (by omega:t%4=0∨t%4=1∨t%4=2∨t%4=3) with e|e|e|e
 ·have h1:=hc 0 (by omega)
  rw[e0,show 0+t/4*4+0=t by omega] at h1
  rw[show t/4*4=t by omega,hu] at k0
  rw[h1];exact k0.symm ▸ rfl
 ·have h1:=hc 1 (by omega)
  rw[e0,show 0+t/4*4+1=t by omega] at h1
  rw[show t/4*4+1=t by omega,hu] at k1
  rw[h1];exact k1.symm ▸ rfl
 ·have h1:=hc 2 (by omega)
  rw[e0,show 0+t/4*4+2=t by omega] at h1
  rw[show t/4*4+2=t by omega,hu] at k2
  rw[h1];exact k2.symm ▸ rfl
 ·have h1:=hc 3 (by omega)
  rw[e0,show 0+t/4*4+3=t by omega] at h1
  rw[show t/4*4+3=t by omega,hu] at k3
  rw[h1];exact k3.symm ▸ rfl
theorem sortW_grown {α:Type} [Inhabited α] (enc:α→List Value) (k:Nat) (w:World) (blk off m:Nat) (dk:Array α) (os:Array Obj):w.grownBy (sortWorldK enc k w blk off m dk os) (some blk):=by
 refine ⟨rfl,rfl,rfl,?_,fun j hj hne=>?_⟩
 ·unfold sortWorldK
  rw[size_grow,size_putRowK]
  exact Nat.le_add_right _ _
 ·have hjb:j≠blk:=fun e=>hne (by rw[e])
  have hs:j<((putRowK enc k (Sort.ahead w m) blk off dk).heap).size:=by rw[size_putRowK];exact hj
  show ((putRowK enc k (Sort.ahead w m) blk off dk).heap++os)[j]?=w.heap[j]?
  rw[Array.getElem?_append_left hs]
  show (w.heap.modify blk _)[j]?=w.heap[j]?
  rw[Array.getElem?_modify,if_neg (fun e=>hjb e.symm)]
theorem cmp_swo:SWO (ltOf (fun x y:An=>cmpI x.g y.g)):=by
 have e:∀ x y:An,ltOf (fun x y:An=>cmpI x.g y.g) x y=decide (x.g<y.g):=fun x y=>by
  unfold ltOf cmpI
  rw[decide_eq_decide]
  show (if x.g<y.g then (-1:Int) else if y.g<x.g then 1 else 0)<0↔x.g<y.g
  split
  ·omega
  ·split <;> omega
 refine ⟨fun x=>by rw[e];simp,fun x y z h1 h2=>?_,fun x y z h1 h2=>?_⟩
 ·rw[e] at *;simp only[decide_eq_true_eq] at *;omega
 ·rw[e] at *;simp only[decide_eq_false_iff_not] at *;omega
theorem risingC_any (x y:An) (w:World) :
  Calls Tryz.prog 85 #[.agg (An.cs x).toArray,.agg (An.cs y).toArray] w fun e w'=>e=.returned (.int .i64 (cmpI x.g y.g))∧w'=grow w #[.cells (An.cs x).toArray 48,.cells (An.cs y).toArray 48]:=by
 obtain ⟨xg,xk,xf,xt⟩:=x
 obtain ⟨yg,yk,yf,yt⟩:=y
 unfold An.cs
 simp only
 have hw:grow w #[.cells ([.int .i64 xg,.string xk,.int .i64 xf,.int .i64 xt]:List Value).toArray 48,.cells ([.int .i64 yg,.string yk,.int .i64 yf,.int .i64 yt]:List Value).toArray 48]=(w.alloc (.cells #[.int .i64 xg,.string xk,.int .i64 xf,.int .i64 xt] 48)).alloc (.cells #[.int .i64 yg,.string yk,.int .i64 yf,.int .i64 yt] 48):=by
  rw[alloc_eq_grow,alloc_eq_grow,grow_grow];rfl
 rw[hw]
 clear hw
 have HC:=hid (fun W=>cmpInt_any xg yg W)
 go_enter Tryz.func85,Tryz.ntmps85
 go_wp2_with (go_at_call 86;refine (HC.out _).mono ?_;rintro e w1 ⟨rfl,rfl⟩)
 go_ret
 exact ⟨rfl,rfl⟩
theorem rising_lays (g:Nat) (n:Nat) (w:World):CmpLays Tryz.prog 85 #[] An.cs 4 (fun x y:An=>cmpI x.g y.g) g 0 n w:=fun m os dk hs x y =>
 (risingC_any x y _).mono (fun e w' h=>⟨h.1,0,_,h.2⟩)
theorem an_isAgg (w:World):(isAgg 48).run Tryz.prog w=.ok true w:=by kernel_rfl
theorem an_sizeOf (w:World):(sizeOf 48).run Tryz.prog w=.ok 4 w:=by kernel_rfl
def SortO (v:Value) (l:List An) (w:World) (e:Ending) (w':World):Prop:=∃ l',l'.Perm l∧l'.Pairwise (fun a b=>a.g≤b.g)∧Ans w' v l'∧∃ g,v.ownBlock=some g∧w.grownBy w' (some g)
theorem ansSort_any (base:Nat) (T:TypeId) (v:Value) (l:List An) (w:World) (h:w.ownsRow base T 4 v l.length (cellsA l)) (hl:0<l.length) (hl2:l.length≤2000) :
  Calls Tryz.prog 84 #[v,.func (.func 85) #[] #[]] w fun e w'=>e=.returned (.tuple #[])∧SortO v l w e w':=by
 obtain ⟨a,g,c,rfl,_,_,_,_,h2⟩:=own_formN h
 obtain ⟨rfl,hg,hc,hf⟩:=h2 hl
 have hS:=AnyQ.slices_SortFunc (P:=Tryz.prog) (ρ:=Tryz.laysSortK_ren) Tryz.laysSortK 4 an_isAgg an_sizeOf An.cs (fun x=>rfl) (fun x v hv=>cellsA_one [x] v (by rw[cellsA,cellsA,List.append_nil];exact hv)) (fun x y:An=>cmpI x.g y.g) cmp_swo 85 #[] g 0 c l.toArray w (fun args w=>by kernel_rfl) (rising_lays g _ w) (an_holds hc hf) hg (by simp;omega)
 have e1:l.toArray.size=l.length:=by simp
 rw[e1] at hS
 refine hS.mono (fun e w' hh=>?_)
 obtain ⟨he,d',n,os,hp,hs,rfl⟩:=hh
 have hsz:d'.size=l.length:=by rw[hp.1];simp
 refine ⟨he,d'.toList,?_,?_,?_,g,rfl,sortW_grown _ _ _ _ _ _ _ _⟩
 ·have:=hp.2.2
  rw[show d'.extract 0 l.length=d' by rw[←hsz];simp,show l.toArray.extract 0 l.length=l.toArray by rw[←e1];simp] at this
  simpa using this
 ·rw[List.pairwise_iff_getElem]
  intro i j hi hj hij
  have:=hs i j (Nat.zero_le _) hij (by simpa [hsz] using hj)
  unfold ltOf at this
  rw[decide_eq_false_iff_not,getElem!_pos d' i (by simpa using hi),getElem!_pos d' j (by simpa using hj)] at this
  replace this:¬ (cmpI (d'[j]'(by simpa using hj)).g (d'[i]'(by simpa using hi)).g<0):=this
  unfold cmpI at this
  simp only[Array.getElem_toList]
  split at this
  ·omega
  ·omega
 ·have hH:=holdsK_sortWorldK An.cs 4 w g 0 n l.toArray d' os hg (an_holds hc hf) (by rw[hsz];simp)
  have hl':d'.toList.length=l.length:=by simpa using hsz
  have hgw:g<(sortWorldK An.cs 4 w g 0 n d' os).heap.size:=lt_sortWorldK An.cs 4 w g 0 n d' os hg
  refine ⟨⟨cellsA_len _,some ⟨g,0,none⟩,g,0,c,by rw[hl'],fun _=>⟨rfl,hgw⟩,fun j u hu=>by rw[Nat.zero_add];exact an_cells hH j u hu⟩,Whole0.some _ _ _⟩
end Go.Proofs.YtjjbkpjjmbfdhaaGreatDoor
namespace Go.Proofs.YtjjbkpjjmbfdhaaGreatDoor
open Lib (hid)
open Go.RowKit Bu
theorem rising_any (base:Nat) (T:TypeId) (v:Value) (l:List An) (w:World) (h:w.ownsRow base T 4 v l.length (cellsA l)) (hl:0<l.length) (hl2:l.length≤2000) :
  Calls Tryz.prog 38 #[v] w fun e w'=>e=.returned v∧SortO v l w e w':=by
 have HS:=hid (ansSort_any base T v l w h hl hl2)
 obtain ⟨a,g,c,rfl,_,_,_,_,_⟩:=own_formN h
 obtain ⟨n,hn⟩:∃ n,n=l.length:=⟨_,rfl⟩
 rw[←hn] at HS ⊢
 clear h hl hl2 hn
 go_enter Tryz.func38,Tryz.ntmps38
 go_wp2_with (go_at_call 84;refine HS.out.mono ?_;rintro e w1 ⟨rfl,hs⟩;have HO:=hid hs;clear hs)
 go_ret
 obtain ⟨l',h1,h2,h3,h4⟩:=HO.out
 exact ⟨rfl,l',h1,h2,h3,h4⟩
theorem an_full:(Tryz.prog.info? 48).map (fun i=>(i.zero,i.size,i.bytes))=some (some (.agg #[.int .i64 0,.string ⟨#[]⟩,.int .i64 0,.int .i64 0]),4,40):=by kernel_rfl
theorem anClone_any (v:Value) (l:List An) (w:World) (hA:Ans w v l) (hl:l.length≤2000) :
  Calls Tryz.prog 54 #[v] w fun e w'=>∃ v',e=.returned v'∧w'.ownsRow w.heap.size 48 4 v' l.length (cellsA l)∧w.grownBy w' none:=by
 have HV:=hid hA.1
 have HW:=hid hA.2
 have HN:=hid hl
 obtain ⟨a,g,o,c,rfl,ha,h0,_⟩:=hA.form
 have q22:∀ (w:World) (a:Option Addr) (n c n' c':Nat),(binOp .eql 22 (.slice a n c) (.slice none n' c')).run Tryz.prog w=.ok (.bool a.isNone) w:=fun w a n c n' c'=>Lib.run_eql_slice_nil w _ _ a n c n' c' Tryz.underlying22
 cases a with
 |none =>
  have hl0:l=[]:=by
   rcases Nat.eq_zero_or_pos l.length with h|h
   ·exact List.length_eq_zero_iff.1 h
   ·have:=(ha h).1;cases this
  subst hl0
  clear HV HW HN ha h0 hA hl
  go_enter Tryz.func54,Tryz.ntmps54
  go_wp2
  go_ret
  exact ⟨_,rfl,⟨by simp[cellsA],.inl ⟨rfl,rfl⟩⟩,grown_refl _ _⟩
 |some p =>
  obtain ⟨n,hn⟩:∃ n,n=l.length:=⟨_,rfl⟩
  rw[←hn] at HV HW HN ⊢
  clear ha h0 hA hl hn
  go_enter Tryz.func54,Tryz.ntmps54
  go_wp2_with (at_builtin;refine wpList_appN3 (by rfl) (.tmp 5) (.tmp 6) 22 (by rfl) w.heap.size 48 (.agg #[.int .i64 0,.string ⟨#[]⟩,.int .i64 0,.int .i64 0]) 4 40 Tryz.underlying22 an_full rfl (by decide) (by decide) _ 0 [] (by rfl) (World.ownsRow_made w #[] 0 (Nat.le_refl _) (Nat.zero_le _) (by simp)) _ n (cellsA l) (by rfl) (HV.out.grown (World.grownBy_alloc _ _ _)) HW.out (cellsA_one l) (by have:=HN.out;omega) (by simp) ?_;intro v1 w1 ho hg hb;have HO:=hid ho;have HG:=hid hg;clear ho hg hb)
  go_ret
  refine ⟨v1,rfl,by have:=HO.out;simpa using this,?_⟩
  exact grown_forget (World.grownBy_alloc _ _ _) (Nat.le_refl _) HG.out
def BdP (A:Nat→Addr) (R:Nat×Bd) (w:World) (e:Ending) (w':World):Prop:=∃ p,e=.returned (.tuple #[.agg #[.int .i64 R.2.v,.string R.2.sp,p],errOf A R.1])∧Ans w' p R.2.l∧Fits p∧w.grownBy w' none
theorem right_wrap {v:Int} (h1 : -9223372036854775808≤v) (h2:v≤9223372036854775807) (sp:ByteArray) (l:List An):right ⟨wrap64 (v+1),sp,l⟩=right ⟨v+1,sp,l⟩∧(right ⟨v+1,sp,l⟩=true→wrap64 (v+1)=v+1):=by
 by_cases h:v=9223372036854775807
 ·subst h
  have e1:right ⟨(9223372036854775807:Int)+1,sp,l⟩=false:=right_lt (by omega)
  rw[e1]
  refine ⟨?_,fun h=>by cases h⟩
  unfold right
  rw[decide_eq_false (by show ¬ (1≤wrap64 (9223372036854775807+1)∧_);unfold wrap64;omega),Bool.false_and]
 ·have e:wrap64 (v+1)=v+1:=by unfold wrap64;omega
  rw[e]
  exact ⟨rfl,fun _=>rfl⟩
theorem bnext_out (A:Nat→Addr) (v:Int) (sp:ByteArray) (ao a:Value) (lo l:List An) (w:World) (hAo:Ans w ao lo) (hA:Ans w a l) (hF:Fits a) (hl:l.length≤1000) (hk:∀ x∈l,x.k.size≤1000) (hsp:sp.size≤1000) (hE:AllErrs w A) (h1 : -9223372036854775808≤v) (h2:v≤9223372036854775807) :
  Calls Tryz.prog 52 #[.agg #[.int .i64 v,.string sp,ao],a] w (BdP A (next ⟨v,sp,lo⟩ l) w):=by
 refine (bnext_any A v sp ao a lo l w hAo hA hl hk hsp hE).mono ?_
 rintro e w' ⟨rfl,hg⟩
 obtain ⟨e2,e3⟩:=right_wrap h1 h2 sp l
 unfold nextV next BdP
 have e1:right (nxt ⟨v,sp,lo⟩ l)=right ⟨v+1,sp,l⟩:=rfl
 rw[e1,e2]
 cases hr:right ⟨v+1,sp,l⟩ with
 |true =>
  rw[e3 hr]
  exact ⟨a,rfl,hA.grown hg,hF,hg⟩
 |false=>exact ⟨.slice none 0 0,rfl,Ans.nil _,Fits.nil,hg⟩
theorem without_ix (v:Int) (sp:ByteArray) (l:List An) (g:Int):(ixB (qG g) l<0∧without ⟨v,sp,l⟩ g=(18,bd0))∨∃ j:Nat,j<l.length∧ixB (qG g) l=j∧without ⟨v,sp,l⟩ g=next ⟨v,sp,l⟩ (l.take j++l.drop (j+1)):=by
 by_cases h:∀ j,j<l.length→(l.getD j an0).g≠g
 ·refine .inl ⟨?_,wo_none h v sp⟩
  rw[ixB_none (fun j hj=>decide_eq_false (h j hj))];decide
 ·obtain ⟨j,hj,hi,hq⟩:∃ j,j<l.length∧(∀ i,i<j→(l.getD i an0).g≠g)∧(l.getD j an0).g=g:=by
   have hex:∃ j,j<l.length∧(l.getD j an0).g=g:=by
    obtain ⟨j,hj⟩:=Classical.not_forall.1 h
    obtain ⟨hj,hq⟩:=Classical.not_imp.1 hj
    exact ⟨j,hj,Classical.not_not.1 hq⟩
   have key:∀ n j,j≤n→j<l.length→(l.getD j an0).g=g→∃ j,j<l.length∧(∀ i,i<j→(l.getD i an0).g≠g)∧(l.getD j an0).g=g:=by
    intro n
    induction n with
    |zero=>intro j h0 hj hq;exact ⟨j,hj,fun i hi=>by omega,hq⟩
    |succ n ih =>
     intro j h0 hj hq
     by_cases hx:∃ i,i<j∧(l.getD i an0).g=g
     ·obtain ⟨i,hi,hqi⟩:=hx
      exact ih i (by omega) (by omega) hqi
     ·exact ⟨j,hj,fun i hi hqi=>hx ⟨i,hi,hqi⟩,hq⟩
   obtain ⟨j,hj,hq⟩:=hex
   exact key j j (Nat.le_refl _) hj hq
  exact .inr ⟨j,hj,ixB_at hj (fun i hi'=>decide_eq_false (hi i hi')) (decide_eq_true hq),wo_at hj hi hq v sp⟩
theorem bwithout_any (A:Nat→Addr) (v:Int) (sp:ByteArray) (a:Value) (l:List An) (g:Int) (w:World) (hA:Ans w a l) (hl:l.length≤900) (hk:∀ x∈l,x.k.size≤1000) (hsp:sp.size≤1000) (hE:AllErrs w A) (hv1 : -9223372036854775808≤v) (hv2:v≤9223372036854775807) :
  Calls Tryz.prog 17 #[.agg #[.int .i64 v,.string sp,a],.int .i64 g] w (BdP A (without ⟨v,sp,l⟩ g) w):=by
 have hI:=bd_info
 have HCl:=hid (fun W (hW:w.grownBy W none)=>anClone_any a l W (hA.grown hW) (by omega))
 have HIx:=hid (fun W (hW:w.grownBy W none) p9 hp=>ixG_any a l g p9 W (hA.grown hW) hp (by omega))
 have HNx:=hid (fun W u j (hW:w.grownBy W none) (hu:Ans W u (l.take j++l.drop (j+1))) (hf:Fits u)=>bnext_out A v sp a u l (l.take j++l.drop (j+1)) W (hA.grown hW) hu hf (by rw[List.length_append,List.length_take,List.length_drop];omega) (fun x hx=>by
  rcases List.mem_append.1 hx with h|h
  ·exact hk x (List.mem_of_mem_take h)
  ·exact hk x (List.mem_of_mem_drop h)) hsp (hE.grown hW) hv1 hv2)
 obtain ⟨w1,hw1⟩:∃ w1,w1=((w.alloc (.cells #[.int .i64 v,.string sp,a] 24)).alloc (.cells #[.int .i64 g] 3)).alloc (.cells #[.int .i64 0,.string ⟨#[]⟩,.slice none 0 0] 24):=⟨_,rfl⟩
 have hg1:w.grownBy w1 none:=by rw[hw1];exact grown_alloc (grown_alloc (World.grownBy_alloc _ _ _) _) _
 have b0:w1.heap[w.heap.size]?=some (.cells #[.int .i64 v,.string sp,a] 24 (0,0)):=by rw[hw1];exact alloc_keep (alloc2_old _ _ _)
 have b1:w1.heap[w.heap.size+1]?=some (.cells #[.int .i64 g] 3 (0,0)):=by rw[hw1];exact alloc_keep (alloc2_new _ _ _)
 have b2:w1.heap[w.heap.size+1+1]?=some (.cells #[.int .i64 0,.string ⟨#[]⟩,.slice none 0 0] 24 (0,0)):=by
  rw[hw1]
  have:=alloc_at ((w.alloc (.cells #[.int .i64 v,.string sp,a] 24)).alloc (.cells #[.int .i64 g] 3)) (.cells #[.int .i64 0,.string ⟨#[]⟩,.slice none 0 0] 24)
  rw[alloc_size,alloc_size] at this;exact this
 have HIx1:=hid (HIx.out w1 hg1 (w.heap.size+1) (cell_blk b1 0 rfl))
 have HEr:=hid (fun W (hg:w.grownBy W none)=>(hE.grown hg).at_ 17 (by omega))
 have HEz:=hid (hE.lt 17 (by omega))
 have HCs:=hid (without_ix v sp l g)
 have HDe:=hid (fun base g c i W h hi=>anDelete_any base g c i l W h hi (by omega))
 obtain ⟨R,hR⟩:∃ R,R=without ⟨v,sp,l⟩ g:=⟨_,rfl⟩
 rw[←hR] at HCs ⊢
 generalize ixB (qG g) l=X at *
 obtain ⟨a1,g1,s1,c1,rfl,-,-,-⟩:=hA.form
 obtain ⟨N,hN⟩:∃ N,N=l.length:=⟨_,rfl⟩
 rw[←hN] at HIx1 HCl HNx HCs HDe b0 hw1 hl ⊢
 have HW1:=hid hw1
 have HB0:=hid b0
 have HB2:=hid b2
 have HG1:=hid hg1
 have d0:=cell_blk b0 2 rfl
 rw[hw1] at d0
 clear hA hk hsp hw1 hg1 b0 b1 b2 hN hR hv1 hv2 hE HIx
 rcases HCs.out with ⟨hX,hRR⟩|⟨j,hj,hX,hRR⟩
 ·rw[hRR]
  clear hRR HCs
  go_enter Tryz.func17,Tryz.ntmps17
  go_wp2_with (go_at_call 50;rw[←HW1.out];refine HIx1.out.mono ?_;rintro e w5 ⟨rfl,hg5⟩;have HG5:=hid (grown_trans HG1.out hg5);have HZ5:=hid (hold_b3 HB2.out hg5);have y0:=free_blk HZ5.out 0;have y1:=free_blk HZ5.out 1;have y2:=free_blk HZ5.out 2;have z0:=cell_blk HZ5.out 0 rfl;have z1:=cell_blk HZ5.out 1 rfl;have z2:=cell_blk HZ5.out 2 rfl;clear hg5)
  have he:=HEr.out _ HG5.out
  have hz:17<w.heap.size:=HEz.out
  have hz1:w.heap.size+1+1≠17:=by omega
  have hz2:17≠w.heap.size+1+1:=by omega
  replace he:w5.cell? ⟨17,0,none⟩=some (errV A 18):=he
  go_region
  go_wp2
  refine bodyPost_ret (v:=.tuple #[.agg #[.int .i64 0,.string ⟨#[]⟩,.slice none 0 0],errV A 18]) ?_ rfl ⟨.slice none 0 0,rfl,Ans.nil _,Fits.nil,?_⟩
  ·exact results_rowT Tryz.results17 _ _ (w.heap.size+1+1) _ _ (0,0) _ _ rfl (set3 HZ5.out) Tryz.underlying24 rfl hI rfl
  ·exact grown_drewN (grown_set (grown_set (grown_set HG5.out (.inl (show w.heap.size≤w.heap.size+1+1 from by omega)) _) (.inl (show w.heap.size≤w.heap.size+1+1 from by omega)) _) (.inl (show w.heap.size≤w.heap.size+1+1 from by omega)) _) 1
 ·rw[hRR]
  rw[hX] at HIx1
  obtain ⟨R',hR'⟩:∃ R',R'=next ⟨v,sp,l⟩ (l.take j++l.drop (j+1)):=⟨_,rfl⟩
  have HNj:=hid (fun W u=>HNx.out W u j)
  rw[←hR'] at HNj ⊢
  have HDj:=hid (fun base g c W h=>HDe.out base g c j W h hj)
  have hX0:¬ (j:Int)<0:=by omega
  have hj1:wrap64 ((j:Int)+1)=(j:Int)+1:=by unfold wrap64;omega
  have hj7:IntKind.i64.wrap ((j:Int)+1)=(j:Int)+1:=by rw[IntKind.wrap_i64];omega
  clear hRR HCs hX HNx HDe hR' HEr HEz
  go_enter Tryz.func17,Tryz.ntmps17
  go_wp2_with (go_at_call 50;rw[←HW1.out];refine HIx1.out.mono ?_;rintro e wr ⟨rfl,hg5⟩;have HG:=hid hg5;have HZ:=hid (hold_b3 HB2.out hg5);clear hg5)
  have HS:Hid (∀ W,wr.grownBy W none→W.cell? ⟨w.heap.size,0,none⟩=some (.int .i64 v)∧W.cell? ⟨w.heap.size,1,none⟩=some (.string sp)∧W.cell? ⟨w.heap.size,2,none⟩=some (.slice a1 N c1)):=hid (fun W hW=>by
   have k0:=hold_b3 HB0.out (grown_trans HG.out hW)
   exact ⟨cell_blk k0 0 rfl,cell_blk k0 1 rfl,cell_blk k0 2 rfl⟩)
  have HSf:Hid (∀ W q0 q1 q2,wr.grownBy W none→(((W.setCell ⟨w.heap.size+1+1,0,none⟩ q0).setCell ⟨w.heap.size+1+1,1,none⟩ q1).setCell ⟨w.heap.size+1+1,2,none⟩ q2).cell? ⟨w.heap.size,0,none⟩=some (.int .i64 v)∧(((W.setCell ⟨w.heap.size+1+1,0,none⟩ q0).setCell ⟨w.heap.size+1+1,1,none⟩ q1).setCell ⟨w.heap.size+1+1,2,none⟩ q2).cell? ⟨w.heap.size,1,none⟩=some (.string sp)∧(((W.setCell ⟨w.heap.size+1+1,0,none⟩ q0).setCell ⟨w.heap.size+1+1,1,none⟩ q1).setCell ⟨w.heap.size+1+1,2,none⟩ q2).cell? ⟨w.heap.size,2,none⟩=some (.slice a1 N c1)):=hid (fun W q0 q1 q2 hW=>by
   have k0:=set3_far (b:=w.heap.size+1+1) (x':=q0) (y':=q1) (z':=q2) (hold_b3 HB0.out (grown_trans HG.out hW)) (by omega)
   exact ⟨cell_blk k0 0 rfl,cell_blk k0 1 rfl,cell_blk k0 2 rfl⟩)
  go_region_held3 (fun w'=>w'.cell? ⟨w.heap.size,0,none⟩=some (.int .i64 v)∧w'.cell? ⟨w.heap.size,1,none⟩=some (.string sp)∧w'.cell? ⟨w.heap.size,2,none⟩=some (.slice a1 N c1))
   (first
    |exact HS.out _ (grown_drewN (grown_refl _ _) 1)
    |exact HS.out _ K38.out
    |exact HS.out _ K37.out
    |exact HS.out _ K33.out
    |exact HSf.out _ _ _ _ K38.out)
   ((first
     |(go_at_call 54;refine (HCl.out _ (grown_trans HG1.out (grown_trans HG.out (grown_drewN (grown_refl _ _) 1)))).mono ?_;rintro e w33 ⟨v33,rfl,ho,hg⟩;obtain ⟨g33,c33,rfl⟩:=Go.Joins.ownsRow_form ho (by omega);have K33:Hid (wr.grownBy w33 none):=hid (grown_trans (grown_drewN (grown_refl _ _) 1) hg);have O33:Hid (w33.ownsRow wr.heap.size 48 4 (.slice (some ⟨g33,0,none⟩) N c33) N (cellsA l)):=hid ho;clear ho hg)
     |(go_at_call 53;refine (HDj.out _ _ _ _ O33.out).mono ?_;rintro e w37 ⟨rfl,ho,hg⟩;have A37:=hid (Ans.own ho).2;have F37:=hid (Fits.own ho);have K37:Hid (wr.grownBy w37 none):=hid (grown_forget K33.out (O33.out.lt _ rfl).1 hg);clear ho hg)
     |(go_at_call 52;refine (HNj.out _ _ (grown_trans HG1.out (grown_trans HG.out K37.out)) A37.out F37.out).mono ?_;rintro e w38 ⟨v38,rfl,ha,hf,hg⟩;obtain ⟨a38,_,_,c38,rfl,-,-,-⟩:=ha.form;have A38:=hid ha;have F38:=hid hf;have K38:=hid (grown_trans K37.out hg);have HZ8:=hid (hold_b3 HZ.out K38.out);have y0:=free_blk HZ8.out 0;have y1:=free_blk HZ8.out 1;have y2:=free_blk HZ8.out 2;have z0:=cell_blk HZ8.out 0 rfl;have z1:=cell_blk HZ8.out 1 rfl;have z2:=cell_blk HZ8.out 2 rfl;clear ha hf hg)))
  all_goals
   go_wp2
   refine bodyPost_ret (v:=.tuple #[.agg #[.int .i64 _,.string _,.slice a38 _ c38],_]) ?_ rfl ⟨_,rfl,A38.out.set3 HZ8.out,F38.out,grown_set (grown_set (grown_set (grown_trans HG1.out (grown_trans HG.out K38.out)) (.inl (show w.heap.size≤w.heap.size+1+1 from by omega)) _) (.inl (show w.heap.size≤w.heap.size+1+1 from by omega)) _) (.inl (show w.heap.size≤w.heap.size+1+1 from by omega)) _⟩
   exact results_rowT Tryz.results17 _ _ (w.heap.size+1+1) _ _ (0,0) _ _ rfl (set3 HZ8.out) Tryz.underlying24 rfl hI rfl
end Go.Proofs.YtjjbkpjjmbfdhaaGreatDoor
namespace Go.Proofs.YtjjbkpjjmbfdhaaGreatDoor
open Lib (hid)
namespace Bu
theorem withA_zero {b:Bd} {a:An} (h:(withA b a).1=0):(withA b a).2=nxt b (srt (b.l++[a]))∧right (nxt b (srt (b.l++[a])))=true:=by
 unfold withA at h ⊢
 by_cases hc:clash b a=true
 ·rw[if_pos hc] at h;cases h
 ·rw[if_neg hc] at h ⊢
  unfold next at h ⊢
  by_cases hr:right (nxt b (srt (b.l++[a])))=true
  ·rw[if_pos hr];exact ⟨rfl,hr⟩
  ·rw[if_neg hr] at h;cases h
structure Gth (b:Bd) (s:List An) (S:ByteArray) (n:Nat):Prop where
 perm:b.l.Perm s
 rise:b.l.Pairwise (fun a b=>a.g≤b.g)
 ver:b.v=1+n
 sp:b.sp=S
 ok:0<n→right b=true
theorem Gth.step {b:Bd} {s:List An} {S:ByteArray} {n:Nat} {a:An} (h:Gth b s S n) (h0:(withA b a).1=0):Gth (withA b a).2 (s++[a]) S (n+1):=by
 obtain ⟨e,hr⟩:=withA_zero h0
 rw[e]
 refine ⟨(srt_perm _).trans (h.perm.append_right [a]),srt_rise _,?_,h.sp,fun _=>hr⟩
 show b.v+1=1+((n+1:Nat):Int)
 have:=h.ver
 omega
theorem right_okL {b:Bd} (h:right b=true):okL b.l=true∧Pt.label (strL b.sp)=true:=by
 have h2:(decide (1≤b.v∧b.v≤1099511627776)&&(Pt.label (strL b.sp)&&okL b.l))=true:=h
 rw[Bool.and_eq_true,Bool.and_eq_true] at h2
 exact ⟨h2.2.2,h2.2.1⟩
theorem Gth.same {x y:Bd} {s t:List An} {S:ByteArray} {n:Nat} (hx:Gth x s S n) (hy:Gth y t S n) (hn:0<n) (hp:s.Perm t):x.v=y.v∧x.sp=y.sp∧x.l=y.l :=
 ⟨hx.ver.trans hy.ver.symm,hx.sp.trans hy.sp.symm,perm_rise ((hx.perm.trans hp).trans hy.perm.symm) (okL_rise (right_okL (hx.ok hn)).1) hy.rise⟩
end Bu
end Go.Proofs.YtjjbkpjjmbfdhaaGreatDoor
namespace Go.Proofs.YtjjbkpjjmbfdhaaGreatDoor
open Lib (hid)
open Go.RowKit Bu
theorem i_full:(Tryz.prog.info? 3).map (fun i=>(i.zero,i.size,i.bytes))=some (some (.int .i64 0),1,8):=by kernel_rfl
theorem bgens_any (v:Int) (sp:ByteArray) (a:Value) (l:List An) (w:World) (hA:Ans w a l) (hl:l.length≤2000) :
  Calls Tryz.prog 16 #[.agg #[.int .i64 v,.string sp,a]] w fun e w'=>∃ p,e=.returned p∧Ints w' p (l.map (·.g))∧Whole0 p∧w.grownBy w' none:=by
 have hIf:=i_full
 obtain ⟨w1,hw1⟩:∃ w1,w1=w.alloc (.cells #[.int .i64 v,.string sp,a] 24):=⟨_,rfl⟩
 have hg1:w.grownBy w1 none:=by rw[hw1];exact World.grownBy_alloc _ _ _
 have b0:w1.heap[w.heap.size]?=some (.cells #[.int .i64 v,.string sp,a] 24 (0,0)):=by rw[hw1];exact alloc_at _ _
 obtain ⟨a1,g1,s1,c1,rfl,ha1,_,hx1⟩:=hA.form
 have HX1:=hid (Ans.cells_at ha1 hx1)
 have HTk:=hid (fun j (hj:j<l.length)=>take_snoc hj)
 have HTa:Hid (l.take l.length=l):=hid (List.take_length)
 obtain ⟨N,hN⟩:∃ N,N=l.length:=⟨_,rfl⟩
 have HA1:Hid (0<N→a1=some ⟨g1,s1,none⟩):=hid (fun h=>(ha1 (by omega)).1)
 rw[←hN] at HX1 HTk HTa b0 hw1 hl ⊢
 have HO1:Hid (w1.ownsRow w.heap.size 3 1 (.slice none 0 0) 0 (cellsI ((l.take 0).map (·.g)))):=hid (by rw[List.take_zero];exact World.ownsRow_nil _ _ _ _)
 have HG1:=hid hg1
 have HW1:=hid hw1
 have d2:=cell_blk b0 2 rfl
 rw[hw1] at d2
 clear hA ha1 hx1 hN hg1 b0 hw1
 go_enter Tryz.func16,Tryz.ntmps16
 go_wp2
 rw[←HW1.out]
 go_loopw [9,3] (fun i o wr=>∃ (j:Nat),j≤N∧i=.int .i64 (j:Int)∧w.grownBy wr none∧wr.ownsRow w.heap.size 3 1 o j (cellsI ((l.take j).map (·.g)))) (fun i _ _=>N-(intOf i).toNat)
 case atStart=>exact ⟨0,Nat.zero_le _,rfl,HG1.out,HO1.out⟩
 case round =>
  obtain ⟨j,hj,rfl,hg,ho⟩:=hrel
  have HG:=hid hg
  have HO:=hid ho
  obtain ⟨oa,og,oc,rfl,-⟩:=own_formN ho
  clear hg ho d2
  by_cases hjN:j<N
  ·obtain ⟨x0,x1,x2,x3⟩:=HX1.out wr HG.out j hjN
   obtain rfl:=HA1.out (by omega)
   have HTj:Hid ((l.take (j+1)).map (·.g)=(l.take j).map (·.g)++[(l.getD j an0).g]):=hid (by rw[HTk.out j hjN,List.map_append];rfl)
   generalize (l.getD j an0).g=p1 at *
   generalize (l.getD j an0).k=p2 at *
   generalize (l.getD j an0).f=p3 at *
   generalize (l.getD j an0).t=p4 at *
   go_wp2_with (at_builtin;refine wpList_appI (by rfl) (.tmp 13) (.tmp 16) 41 (by rfl) w.heap.size 3 (.int .i64 0) 8 Tryz.underlying41 hIf rfl (by decide) _ _ _ (by rfl) ((HO.out.alloc _).alloc _) _ _ (by rfl) (Ints.lit (l:=[p1]) (alloc2_new _ _ _)) (Whole0.some _ _ _) (by show j+1≤_;omega) (grown_alloc (grown_alloc HG.out _) _).size ?_;intro v5 w5 ho hg;have HO5:=hid ho;have HG5:Hid (w.grownBy w5 none):=hid (grown_own (grown_alloc (grown_alloc HG.out _) _) ((HO.out.alloc _).alloc _) (Nat.le_refl _) hg);clear ho hg)
   have HF:Hid (w5.ownsRow w.heap.size 3 1 v5 (j+1) (cellsI ((l.take (j+1)).map (·.g)))):=hid (by
    have h:=HO5.out
    rw[HTj.out]
    unfold cellsI at h ⊢
    rw[List.map_append]
    exact h)
   go_roundw
   case rel=>exact ⟨j+1,by omega,by go_num,HG5.out,HF.out⟩
   case measure=>simp[intOf] <;> omega
  ·obtain rfl:j=N:=by omega
   rw[HTa.out] at HO
   go_wp2
   go_ret
   exact ⟨_,rfl,Ints.own HO.out,Whole0.own HO.out,HG.out⟩
end Go.Proofs.YtjjbkpjjmbfdhaaGreatDoor
