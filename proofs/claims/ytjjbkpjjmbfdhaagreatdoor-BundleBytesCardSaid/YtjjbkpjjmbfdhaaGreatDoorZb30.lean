import Derived.Test.YtjjbkpjjmbfdhaaGreatDoorZb29
import Derived.Laws.Cover3
set_option linter.unusedVariables false
set_option linter.unusedSimpArgs false
set_option maxRecDepth 100000
set_option maxHeartbeats 1000000
namespace Go.Proofs.YtjjbkpjjmbfdhaaGreatDoor
open Lib (hid)
open Go.RowKit
theorem fig_in (c:Nat):inB 48 57 [(c:Int)]=Cal.fig c:=by
 rw[inB_one,Cal.fig,Bool.eq_iff_iff]
 simp only[Bool.and_eq_true,decide_eq_true_eq]
 omega
def isBodyL (l:List Nat):Bool:=decide (l.length=15)&&(decide (l.getD 14 0=90)&&(l.take 14).all Cal.fig)
theorem isBodyL_false {l:List Nat} (k:Nat) (hk:k<14) (hl:l.length=15) (h:Cal.fig (l.getD k 0)=false):isBodyL l=false:=by
 have:(l.take 14).all Cal.fig=false:=by
  rw[List.all_eq_false]
  refine ⟨l.getD k 0,?_,by rw[h];decide⟩
  have h1:k<(l.take 14).length:=by rw[List.length_take];omega
  have:(l.take 14)[k]=l.getD k 0:=by rw[List.getElem_take,List.getD_eq_getElem?_getD,List.getElem?_eq_getElem (by omega)];rfl
  rw[←this]
  exact List.getElem_mem h1
 rw[isBodyL,this,Bool.and_false,Bool.and_false]
theorem isBodyL_true {l:List Nat} (hl:l.length=15) (h90:l.getD 14 0=90) (h:∀ k,k<14→Cal.fig (l.getD k 0)=true):isBodyL l=true:=by
 have:(l.take 14).all Cal.fig=true:=by
  rw[List.all_eq_true]
  intro x hx
  obtain ⟨k,hk,rfl⟩:=List.getElem_of_mem hx
  have hk2:k<14:=by rw[List.length_take] at hk;omega
  have:=h k hk2
  rw[List.getD_eq_getElem?_getD,List.getElem?_eq_getElem (by omega)] at this
  rw[List.getElem_take]
  exact this
 rw[isBodyL,this,decide_eq_true hl,decide_eq_true h90];rfl
theorem isBody_any (v:Value) (l:List Nat) (w:World) (h:Bytes w v l) (hl:l.length≤1000000) :
  Calls Tryz.prog 121 #[v] w fun e w'=>e=.returned (.bool (isBodyL l))∧w.grownBy w' none:=by
 obtain ⟨hb,a,sb,so,c,rfl,hc,ha,hcell⟩:=h
 by_cases h15:l.length=15
 ·obtain ⟨rfl,hsb⟩:=ha (by omega)
  have c14:=hcell 14 (by omega)
  by_cases h90:l.getD 14 0=90
  ·have HT:Hid ((∀ k,k<14→Cal.fig (l.getD k 0)=true)→isBodyL l=true):=hid (isBodyL_true h15 h90)
   have HF:Hid (∀ k,k<14→Cal.fig (l.getD k 0)=false→isBodyL l=false):=hid (fun k hk=>isBodyL_false k hk h15)
   have HC:Hid (∀ W,w.grownBy W none→∀ j,j<14→W.cell? ⟨sb,so+j,none⟩=some (.int .u8 ((l.getD j 0:Nat):Int))):=hid (fun W hW j hj=>by
    rw[World.cell?_of_block (hW.block sb hsb (by simp))];exact hcell j (by omega))
   have HB:Hid (∀ j,l.getD j 0<256):=hid (fun j=>by
    rcases Nat.lt_or_ge j l.length with h|h
    ·rw[List.getD_eq_getElem?_getD,List.getElem?_eq_getElem h];exact hb _ (List.getElem_mem h)
    ·rw[List.getD_eq_getElem?_getD,List.getElem?_eq_none h];decide)
   rw[h90] at c14
   rw[h15]
   rw[h15] at hc
   generalize isBodyL l=D at *
   clear h15 h90 hb ha hcell hl
   go_enter Tryz.func121,Tryz.ntmps121
   go_wp2
   clear c14
   go_loopw [17] (fun i wr=>∃ k:Nat,k≤14∧i=.int .i64 k∧w.grownBy wr none∧∀ j,j<k→Cal.fig (l.getD j 0)=true) (fun i _=>14-(intOf i).toNat)
   case atStart=>exact ⟨0,Nat.zero_le _,rfl,grown_refl _ _,fun j hj=>absurd hj (Nat.not_lt_zero _)⟩
   case round =>
    obtain ⟨k,hk,rfl,hg,hall⟩:=hrel
    have HAll:=hid hall
    have HG:=hid hg
    by_cases hlt:k<14
    ·have f1:=HC.out wr hg k hlt
     have hFk:=HF.out k hlt
     have hx256:=HB.out k
     clear hall hg
     generalize hx:l.getD k 0=x at *
     have HX:=hid hx
     have him:=mwithin_any 48 57 _ [(x:Int)] _ (ints1 wr (x:Int)) (by simp)
     rw[fig_in] at him
     have HGa:=hid (grown_trans HG.out (World.grownBy_alloc wr (.cells #[.int .i64 (x:Int)] 3) none))
     clear hx
     cases hfx:Cal.fig x with
     |true =>
      rw[hfx] at him
      have HIm:=hid him
      have HFx:=hid hfx
      clear him hfx hFk
      go_wp2_with (go_at_call 158;refine HIm.out.mono ?_;rintro e w2 ⟨rfl,rfl⟩)
      go_roundw
      case rel=>exact ⟨k+1,by omega,by go_num,HGa.out,fun j hj=>(by
       rcases Nat.lt_or_ge j k with h|h
       ·exact HAll.out j h
       ·obtain rfl:j=k:=by omega
        rw[HX.out];exact HFx.out)⟩
      case measure=>simp[intOf];omega
     |false =>
      rw[hfx] at him
      have HIm:=hid him
      have hD:=hid (hFk hfx)
      clear him hfx hFk
      go_wp2_with (go_at_call 158;refine HIm.out.mono ?_;rintro e w2 ⟨rfl,rfl⟩)
      go_ret
      exact ⟨retB2 hD.out.symm,HGa.out⟩
    ·obtain rfl:k=14:=by omega
     have hD:=hid (HT.out HAll.out)
     clear hg hall
     go_wp2
     go_ret
     exact ⟨retB2 hD.out.symm,HG.out⟩
  ·have hD:isBodyL l=false:=by rw[isBodyL,decide_eq_false h90,Bool.false_and,Bool.and_false]
   rw[hD,h15]
   rw[h15] at hc
   have hx256:l.getD 14 0<256:=by
    rw[List.getD_eq_getElem?_getD,List.getElem?_eq_getElem (by omega)];exact hb _ (List.getElem_mem _)
   generalize l.getD 14 0=x at *
   have hne:((x:Int) != 90)=true:=by simp;omega
   clear hD h15 hb ha hcell hl h90
   go_enter Tryz.func121,Tryz.ntmps121
   go_wp2
   go_ret
   exact ⟨rfl,grown_refl _ _⟩
 ·have hD:isBodyL l=false:=by rw[isBodyL,decide_eq_false h15,Bool.false_and]
  rw[hD]
  have hne:((l.length:Int) != 15)=true:=by simp;omega
  clear hD hb ha hcell
  generalize l.length=n at *
  clear h15
  go_enter Tryz.func121,Tryz.ntmps121
  go_wp2
  go_ret
  exact ⟨rfl,grown_refl _ _⟩
theorem make15 (W:World):(Instr.makeSlice 27 (.int .i64 0) (.int .i64 15)).run Tryz.prog W=.ok (.slice (some ⟨W.heap.size,0,none⟩) 0 15) (W.alloc (.cells (madeCells (Value.int IntKind.u8 0).cells 15) 5)):=by
 obtain ⟨iT,i1,i2,i3,i4⟩:=info_parts (P:=Tryz.prog) (e:=5) (z:=.int .u8 0) (size:=1) (bytes:=1) (by kernel_rfl)
 rw[run_makeSlice W 27 5 iT (.int .u8 0) Tryz.underlying27 i1 i2 .i64 .i64 0 15 (by omega) (by omega) (by rw[i3];simp) (by rw[i4];simp) (by omega),i3]
 rfl
theorem own15 (w:World):FrW w (w.alloc (.cells (madeCells (Value.int IntKind.u8 0).cells 15) 5)) (.slice (some ⟨w.heap.size,0,none⟩) 0 15) [] :=
 ⟨World.grownBy_alloc _ _ _,by
  refine ⟨rfl,.inr ⟨w.heap.size,15,_,rfl,Nat.le_refl _,alloc_at w _,Nat.zero_le _,by unfold maxLen;omega,?_,?_⟩⟩
  ·rw[size_madeCells]
  ·simp[cellsL]⟩
theorem bodyOf_any (P:List Nat) (hP:∀ x∈P,x<100) (hl:P.length≤1000) (v:Value) (w:World) (h:Ints w v (P.map fun (x:Nat)=>(x:Int))) :
  Calls Tryz.prog 109 #[v] w fun e w'=>∃ u,e=.returned u∧FrW w w' u (Cal.twos P++[90]):=by
 obtain ⟨a,sb,so,c,rfl,hc,ha,hcell⟩:=h
 rw[List.length_map] at hc ha hcell ⊢
 have HC:Hid (∀ W,w.grownBy W none→∀ j,j<P.length→a=some ⟨sb,so,none⟩∧W.cell? ⟨sb,so+j,none⟩=some (.int .i64 ((P.getD j 0:Nat):Int))):=hid (fun W hW j hj=>by
  obtain ⟨e1,e2⟩:=ha (by omega)
  refine ⟨e1,?_⟩
  rw[World.cell?_of_block (hW.block sb e2 (by simp)),hcell j hj]
  simp[List.getD_eq_getElem?_getD,hj])
 have HPt:=hid (Cal.take_pairs P)
 have HP1:Hid (∀ j,j<P.length→P.getD j 0<100):=hid (fun j hj=>by
  rw[List.getD_eq_getElem?_getD,List.getElem?_eq_getElem hj];exact hP _ (List.getElem_mem hj))
 have HTl:=hid Cal.twos_len
 have F0:=hid (own15 w)
 have hmk:=make15 w
 obtain ⟨W1,hW1⟩:∃ W1,W1=w.alloc (.cells (madeCells (Value.int IntKind.u8 0).cells 15) 5):=⟨_,rfl⟩
 rw[←hW1] at hmk F0
 have HTk:Hid (Cal.twos (P.take P.length)=Cal.twos P):=hid (by rw[List.take_of_length_le (Nat.le_refl _)])
 have HTL:Hid ((Cal.twos P).length≤2000):=hid (by rw[Cal.twos_len];omega)
 have HTl2:Hid (∀ j,(Cal.twos (P.take j)).length≤2000):=hid (fun j=>by rw[Cal.twos_len,List.length_take];omega)
 obtain ⟨n,hn⟩:∃ n,n=P.length:=⟨_,rfl⟩
 rw[←hn] at HC HPt HP1 hc hl HTk ⊢
 clear hn ha hcell hP hW1
 go_enter Tryz.func109,Tryz.ntmps109
 go_wp2
 clear hmk
 go_loopw [3,9] (fun v i wr=>∃ j:Nat,j≤n∧i=.int .i64 ((j:Nat):Int)∧FrW w wr v (Cal.twos (P.take j))) (fun _ i _=>n-(intOf i).toNat)
 case atStart=>exact ⟨0,by omega,rfl,F0.out⟩
 case round =>
  obtain ⟨j,hj,rfl,hF⟩:=hrel
  have HF:=hid hF
  by_cases hjn:j<n
  ·obtain ⟨rfl,hck⟩:=HC.out _ hF.grown j hjn
   have HTj:=hid (HPt.out j hjn)
   have hp:=HP1.out j hjn
   generalize P.getD j 0=p at *
   have HNx:Hid (Cal.twos (P.take (j+1))=Cal.twos (P.take j)++Cal.two p):=hid (by rw[HTj.out,Cal.twos_snoc])
   have HLn:=hid (HTl2.out j)
   clear hF HTj
   go_wp2_with (at_builtin;refine wpList_appB (by rfl) (.tmp 13) (.tmp 22) 27 (by rfl) w.heap.size 5 (.int .u8 0) 1 Tryz.underlying27 (by kernel_rfl) rfl (by decide) _ _ _ (by rfl) (HF.out.own.alloc _) _ (Cal.two p) (by rfl) (two_bytes hp _ _ _ (by omega) (by omega)) (Whole0.some _ _ _) (by have:=HLn.out;simp only[Cal.two,List.length_cons,List.length_nil];omega) (by have:=HF.out.le;rw[alloc_size];omega) ?_;intro v3 w3 ho3 hg3;have HH:=hid ((HF.out.alloc _).step (l':=Cal.twos (P.take (j+1))) ho3 hg3 (by rw[HNx.out];exact (cellsL_append _ _).symm));clear ho3 hg3)
   go_roundw
   case rel=>exact ⟨j+1,by omega,by go_num,HH.out⟩
   case measure=>simp[intOf];omega
  ·obtain rfl:j=n:=by omega
   rw[HTk.out] at HF
   clear hF
   go_wp2_with (at_builtin;refine wpList_appB (by rfl) (.tmp 25) (.tmp 26) 27 (by rfl) w.heap.size 5 (.int .u8 0) 1 Tryz.underlying27 (by kernel_rfl) rfl (by decide) _ _ _ (by rfl) (HF.out.own.alloc _) _ [90] (by rfl) (Bytes.lit (alloc_at _ _) (by decide)) (Whole0.some _ _ _) (by have:=HTL.out;simp only[List.length_cons,List.length_nil];omega) (by have:=HF.out.le;rw[alloc_size];omega) ?_;intro v3 w3 ho3 hg3;have HH:=hid ((HF.out.alloc _).step (l':=Cal.twos P++[90]) ho3 hg3 (cellsL_append _ _).symm);clear ho3 hg3)
   go_ret
   exact ⟨_,rfl,HH.out⟩
theorem ints7 (w:World) (d:Cal.Date):Ints (w.alloc (.cells #[.int .i64 ((d.Y:Int)/100),.int .i64 ((d.Y:Int)%100),.int .i64 (d.M:Int),.int .i64 (d.D:Int),.int .i64 (d.h:Int),.int .i64 (d.mi:Int),.int .i64 (d.s:Int)] 3)) (.slice (some ⟨w.heap.size,0,none⟩) 7 7) ((Cal.pairs d).map fun (x:Nat)=>(x:Int)):=by
 have e:(Cal.pairs d).map (fun (x:Nat)=>(x:Int))=[(d.Y:Int)/100,(d.Y:Int)%100,(d.M:Int),(d.D:Int),(d.h:Int),(d.mi:Int),(d.s:Int)]:=by
  simp only[Cal.pairs,List.map_cons,List.map_nil,Int.natCast_ediv,Int.natCast_emod]
  rfl
 rw[e]
 exact Ints.lit (l:=[(d.Y:Int)/100,(d.Y:Int)%100,(d.M:Int),(d.D:Int),(d.h:Int),(d.mi:Int),(d.s:Int)]) (alloc_at w _)
theorem mPut_any (A:Nat→Addr) (W0:World) (hE:AllErrs W0 A) (hL:Lens W0):MoPut A W0:=by
 intro t w ht hg
 have HI1:Hid ((Tryz.prog.info? 152).map (·.size)=some 6):=hid (by kernel_rfl)
 have hof:=mOf_any A W0 hE hL t w ht hg
 by_cases hm:isM t
 ·rw[if_pos hm] at hof
  simp only[if_pos hm]
  obtain ⟨m1,m2⟩:=hm
  obtain ⟨hr,_⟩:=Cal.of_right (t:=t.toNat) (by omega)
  generalize Cal.of t.toNat=d at *
  have hp:=Cal.pairs_lt hr
  have hb:=fun v W h=>bodyOf_any (Cal.pairs d) (fun x hx=>by
   obtain ⟨j,hj,rfl⟩:=List.getElem_of_mem hx
   have:=hp j
   rw[List.getD_eq_getElem?_getD,List.getElem?_eq_getElem hj] at this
   exact this) (by simp[Cal.pairs]) v W h
  rw[←Cal.text_twos] at hb
  have HBo:=hid (fun W=>hb _ _ (ints7 W d))
  have HTl:Hid ((Cal.text d).length=15):=hid rfl
  have HT6:Hid (∀ x∈Cal.text d,x<256):=hid (by
   intro x hx
   rw[Cal.text_twos,List.mem_append] at hx
   rcases hx with hx|hx
   ·refine Cal.twos_lt (fun x hx=>?_) x hx
    obtain ⟨j,hj,rfl⟩:=List.getElem_of_mem hx
    have:=hp j
    rw[List.getD_eq_getElem?_getD,List.getElem?_eq_getElem hj] at this
    exact this
   ·simp at hx;omega)
  have hy0:(0:Int)≤(d.Y:Int):=by omega
  obtain ⟨DF,hDF⟩:∃ DF:Array Value,DF=#[.int .i64 (d.Y:Int),.int .i64 (d.M:Int),.int .i64 (d.D:Int),.int .i64 (d.h:Int),.int .i64 (d.mi:Int),.int .i64 (d.s:Int)]:=⟨_,rfl⟩
  have hdf:dV d.toI=.agg DF:=by rw[hDF];rfl
  rw[hdf] at hof
  have HOf:=hid hof
  have HDF:=hid hDF
  have HDs:Hid (DF.size=6∧DF.all (·.oneCell')=true):=hid (by rw[hDF];exact ⟨rfl,by simp[Value.oneCell']⟩)
  have hyr:(d.Y:Int)≤9999:=by have:=hr.1.2;omega
  clear hof hdf hDF hb hp hr
  generalize Cal.text d=TX at *
  go_enter Tryz.func66,Tryz.ntmps66
  go_wp2_with (first
   |(go_at_call 108;refine HOf.out.mono ?_;rintro e w1 ⟨hg1,rfl⟩;have HG1:=hid hg1;clear hg1)
   |(refine wpList_store_row (by rfl) 152 (.tmp 4) (.tmp 9) (by rfl) w1.heap.size DF (by rfl) (by rfl) _ _ (alloc_at w1 _) (by rw[HDs.out.1];exact HI1.out) (by rw[HDs.out.1];rfl) HDs.out.2 ?_;obtain ⟨w2,hx⟩:∃ W:World,W=(w1.alloc (.cells zeroD 152)).setRow w1.heap.size DF:=⟨_,rfl⟩;rw[←hx];have hst:=stored (z:=zeroD) (DC:=DF) (T:=152) HG1.out;rw[←hx,HDF.out] at hst;have HS:=hid hst;have x0:=cell_blk hst.2.2 0 rfl;have x1:=cell_blk hst.2.2 1 rfl;have x2:=cell_blk hst.2.2 2 rfl;have x3:=cell_blk hst.2.2 3 rfl;have x4:=cell_blk hst.2.2 4 rfl;have x5:=cell_blk hst.2.2 5 rfl;clear hst hx)
   |(go_at_call 109;refine (HBo.out w2).mono ?_;rintro e w3 ⟨u,rfl,hf⟩;have HF:=hid hf;have HG2:=hid (grown_trans HS.out.1 (grown_trans (World.grownBy_alloc w2 _ none) hf.grown));clear hf))
  go_ret2
  obtain ⟨a,g,c,rfl,_⟩:=ownsRow_form HF.out.own
  have hB:=Bytes.own HF.out.own HT6.out
  rw[HTl.out] at hB ⊢
  exact ⟨HG2.out,_,_,rfl,hB⟩
 ·rw[if_neg hm] at hof
  simp only[if_neg hm]
  obtain ⟨Z,hZ⟩:∃ Z:Array Value,noDate=.agg Z:=⟨_,rfl⟩
  have HDs:Hid (Z.size=6∧Z.all (·.oneCell')=true):=hid (by
   rw[noDate] at hZ
   obtain rfl:=Value.agg.inj hZ
   exact ⟨rfl,by simp[Value.oneCell']⟩)
  rw[hZ] at hof
  have HOf:=hid hof
  clear hof hZ hm
  go_enter Tryz.func66,Tryz.ntmps66
  go_wp2_with (first
   |(go_at_call 108;refine HOf.out.mono ?_;rintro e w1 ⟨hg1,rfl⟩;have HG1:=hid hg1;clear hg1)
   |(refine wpList_store_row (by rfl) 152 (.tmp 4) (.tmp 9) (by rfl) w1.heap.size Z (by rfl) (by rfl) _ _ (alloc_at w1 _) (by rw[HDs.out.1];exact HI1.out) (by rw[HDs.out.1];rfl) HDs.out.2 ?_;obtain ⟨w2,hx⟩:∃ W:World,W=(w1.alloc (.cells zeroD 152)).setRow w1.heap.size Z:=⟨_,rfl⟩;rw[←hx];have hst:=stored (z:=zeroD) (DC:=Z) (T:=152) HG1.out;rw[←hx] at hst;have HS:=hid hst;clear hst hx))
  go_ret2
  exact ⟨HS.out.1,_,_,rfl⟩
def pairRow (l:List Nat) (k:Nat):List Int:=(List.range 7).map fun j=>if j<k then ((Cal.num2 l (2*j):Nat):Int) else 0
theorem pairRow_set (l:List Nat) (k:Nat) (hk:k<7):(cellsI (pairRow l k)).toArray.setIfInBounds k (.int .i64 ((Cal.num2 l (2*k):Nat):Int))=(cellsI (pairRow l (k+1))).toArray:=by
 match k,hk with
 |0,_=>rfl
 |1,_=>rfl
 |2,_=>rfl
 |3,_=>rfl
 |4,_=>rfl
 |5,_=>rfl
 |6,_=>rfl
theorem pairRow_at (l:List Nat) (k j:Nat) (hj:j<7):∃ z,(cellsI (pairRow l k)).toArray[j]?=some (.int .i64 z):=by
 refine ⟨(pairRow l k).getD j 0,?_⟩
 simpa using cellsI_at (pairRow l k) j (by simp[pairRow];exact hj)
theorem pairEnd {w wr:World} {L Z PR PR':Array Value} {t u:TypeId} {k:Nat} {z:Int} (hg:w.grownBy wr none) (h0:wr.heap[w.heap.size]?=some (.cells L t (0,0))) (h1:wr.heap[w.heap.size+1]?=some (.cells Z u (0,0))) (h2:wr.heap[w.heap.size+1+1]?=some (.cells PR u (0,0)))
  (hP:PR.setIfInBounds k (.int .i64 z)=PR') :
  w.grownBy (wr.setCell ⟨w.heap.size+1+1,k,none⟩ (.int .i64 z)).drew none∧(wr.setCell ⟨w.heap.size+1+1,k,none⟩ (.int .i64 z)).drew.heap[w.heap.size]?=some (.cells L t (0,0)) ∧
   (wr.setCell ⟨w.heap.size+1+1,k,none⟩ (.int .i64 z)).drew.heap[w.heap.size+1]?=some (.cells Z u (0,0))∧(wr.setCell ⟨w.heap.size+1+1,k,none⟩ (.int .i64 z)).drew.heap[w.heap.size+1+1]?=some (.cells PR' u (0,0)):=by
 have hg2:w.grownBy (wr.setCell ⟨w.heap.size+1+1,k,none⟩ (.int .i64 z)) none:=grown_set hg (.inl (by show w.heap.size≤w.heap.size+1+1;omega)) _
 have e0:=(heap_setCell_other wr ⟨w.heap.size+1+1,k,none⟩ w.heap.size (.int .i64 z) (by show w.heap.size≠w.heap.size+1+1;omega)).trans h0
 have e1:=(heap_setCell_other wr ⟨w.heap.size+1+1,k,none⟩ (w.heap.size+1) (.int .i64 z) (by show w.heap.size+1≠w.heap.size+1+1;omega)).trans h1
 have e2:=heap_setCell_same wr (w.heap.size+1+1) k PR u (.int .i64 z) h2
 rw[hP] at e2
 generalize World.setCell _ _ _=w9 at *
 exact ⟨grown_drewN hg2 1,e0,e1,e2⟩
theorem pairsOf_any (l:List Nat) (hl:l.length=15) (hf:∀ j,j<14→48≤l.getD j 0∧l.getD j 0≤57) (w:World) :
  Calls Tryz.prog 122 #[.agg (cellsL l).toArray] w fun e w'=>e=.returned (.agg (cellsI (pairRow l 7)).toArray)∧w.grownBy w' none:=by
 have HA:Hid (∀ k,k<7→∃ a b:Nat,(48≤a∧a≤57)∧(48≤b∧b≤57)∧(cellsL l).toArray[2*k]?=some (.int .u8 (a:Int))∧(cellsL l).toArray[2*k+1]?=some (.int .u8 (b:Int))∧Cal.num2 l (2*k)=(a-48)*10+(b-48)):=hid (fun k hk =>
  ⟨l.getD (2*k) 0,l.getD (2*k+1) 0,hf _ (by omega),hf _ (by omega),by simpa using cellsL_at l (2*k) (by omega),by simpa using cellsL_at l (2*k+1) (by omega),rfl⟩)
 have HPs:=hid (pairRow_set l)
 have HPa:=hid (pairRow_at l)
 have HP7:Hid ((cellsI (pairRow l 7)).toArray.size=7∧(cellsI (pairRow l 7)).toArray.all (·.oneCell')=true):=hid ⟨by simp[cellsI,pairRow],by rw[List.all_toArray,List.all_eq_true];exact cellsI_one _⟩
 have hP0:(cellsI (pairRow l 0)).toArray=#[.int .i64 0,.int .i64 0,.int .i64 0,.int .i64 0,.int .i64 0,.int .i64 0,.int .i64 0]:=rfl
 obtain ⟨PR,hPR⟩:∃ PR:Nat→Array Value,PR=fun k=>(cellsI (pairRow l k)).toArray:=⟨_,rfl⟩
 rw[show (cellsI (pairRow l 7)).toArray=PR 7 by rw[hPR]] at HP7 ⊢
 have HPs:Hid (∀ k,k<7→(PR k).setIfInBounds k (.int .i64 ((Cal.num2 l (2*k):Nat):Int))=PR (k+1)):=hid (by rw[hPR];exact HPs.out)
 have HPa:Hid (∀ k j,j<7→∃ z,(PR k)[j]?=some (.int .i64 z)):=hid (by rw[hPR];exact HPa.out)
 have HP0:Hid (PR 0=#[.int .i64 0,.int .i64 0,.int .i64 0,.int .i64 0,.int .i64 0,.int .i64 0,.int .i64 0]):=hid (by rw[hPR];exact hP0)
 obtain ⟨L,hL⟩:∃ L,L=(cellsL l).toArray:=⟨_,rfl⟩
 rw[←hL] at HA ⊢
 have HI7:Hid ((Tryz.prog.info? 176).map (·.size)=some 7):=hid (by kernel_rfl)
 obtain ⟨W3,hW3⟩:∃ W3,W3=((w.alloc (.cells L 178)).alloc (.cells #[.int .i64 0,.int .i64 0,.int .i64 0,.int .i64 0,.int .i64 0,.int .i64 0,.int .i64 0] 176)).alloc (.cells #[.int .i64 0,.int .i64 0,.int .i64 0,.int .i64 0,.int .i64 0,.int .i64 0,.int .i64 0] 176):=⟨_,rfl⟩
 have HG:Hid (w.grownBy W3 none):=hid (by rw[hW3];exact grown_alloc (grown_alloc (World.grownBy_alloc _ _ _) _) _)
 have H0:Hid (W3.heap[w.heap.size]?=some (.cells L 178 (0,0))):=hid (by
  rw[hW3,alloc_old _ _ _ (by rw[World.size_alloc,World.size_alloc];omega),alloc_old _ _ _ (by rw[World.size_alloc];omega)];exact alloc_at w _)
 have H1:Hid (W3.heap[w.heap.size+1]?=some (.cells (PR 0) 176 (0,0))):=hid (by
  have:=alloc_at (w.alloc (.cells L 178)) (.cells (PR 0) 176)
  rw[World.size_alloc] at this
  rw[hW3,←HP0.out,alloc_old _ _ _ (by rw[World.size_alloc,World.size_alloc];omega)];exact this)
 have H2:Hid (W3.heap[w.heap.size+1+1]?=some (.cells (PR 0) 176 (0,0))):=hid (by
  have:=alloc_at ((w.alloc (.cells L 178)).alloc (.cells (PR 0) 176)) (.cells (PR 0) 176)
  rw[World.size_alloc,World.size_alloc] at this
  rw[hW3,←HP0.out];exact this)
 have HW3:=hid hW3
 clear hPR hP0 hW3
 go_enter Tryz.func122,Tryz.ntmps122
 go_wp2
 rw[←hL]
 rw[←HW3.out]
 clear HW3 hL
 go_loopw [5] (fun i wr=>∃ k:Nat,k≤7∧i=.int .i64 k∧w.grownBy wr none∧wr.heap[w.heap.size]?=some (.cells L 178 (0,0))∧wr.heap[w.heap.size+1]?=some (.cells (PR 0) 176 (0,0))∧wr.heap[w.heap.size+1+1]?=some (.cells (PR k) 176 (0,0))) (fun i _=>7-(intOf i).toNat)
 case atStart=>exact ⟨0,Nat.zero_le _,rfl,HG.out,H0.out,H1.out,H2.out⟩
 case round =>
  obtain ⟨k,hk,rfl,hg,r0,r1,r2⟩:=hrel
  have G:=hid hg
  have R0:=hid r0
  have R1:=hid r1
  have R2:=hid r2
  by_cases hlt:k<7
  ·obtain ⟨a,b,⟨a1,a2⟩,⟨b1,b2⟩,ha,hb,hn⟩:=HA.out k hlt
   obtain ⟨z,hz⟩:=HPa.out k k hlt
   have x1:=cell_blk r0 _ ha
   have x2:=cell_blk r0 _ hb
   have x3:=cell_blk r2 _ hz
   have x4:=free_blk r2 k
   have HN:=hid hn
   have HPk:=hid (HPs.out k hlt)
   clear hg r0 r1 r2 ha hb hz hn
   go_wp2
   go_region
   obtain ⟨w5,hw5⟩:∃ W:World,W=(wr.setCell ⟨w.heap.size+1+1,k,none⟩ (.int .i64 (10*((a:Int)-48)+((b:Int)-48)))).drew:=⟨_,rfl⟩
   have h5:=pairEnd (k:=k) (z:=10*((a:Int)-48)+((b:Int)-48)) (PR':=PR (k+1)) G.out R0.out R1.out R2.out (by rw[←HPk.out,HN.out,show (((a-48)*10+(b-48):Nat):Int)=10*((a:Int)-48)+((b:Int)-48) by omega])
   rw[←hw5] at h5 ⊢
   have H5:=hid h5
   clear h5 hw5 x1 x2 x3 x4
   go_wp2
   go_roundw
   case rel=>exact ⟨k+1,by omega,by go_num,H5.out.1,H5.out.2.1,H5.out.2.2.1,H5.out.2.2.2⟩
   case measure=>simp[intOf];omega
  ·obtain rfl:k=7:=by omega
   clear hg r0 r1 r2 hk hlt
   obtain ⟨P7,hP7⟩:∃ P7,P7=PR 7:=⟨_,rfl⟩
   rw[←hP7] at HP7 R2
   have HZ:Hid ((PR 0).size=7):=hid (by rw[HP0.out];rfl)
   have HP7e:=hid hP7
   clear hP7
   go_wp2_with (first
    |(refine wpList_load_row (by rfl) 176 (.tmp 3) (by rfl) (w.heap.size+1+1) (by rfl) _ P7 (0,0) _ R2.out Tryz.underlying176 (by rfl) (by rw[HP7.out.1];exact HI7.out) ?_)
    |(refine wpList_store_row (by rfl) 176 (.tmp 2) (.tmp 26) (by rfl) (w.heap.size+1) P7 (by rfl) (by rfl) _ _ R1.out (by rw[HP7.out.1];exact HI7.out) (by rw[HP7.out.1];exact HZ.out) HP7.out.2 ?_))
   refine bodyPost_ret (v:=.agg P7) ?_ rfl ⟨?_,grown_setRow G.out (by omega) _⟩
   ·exact results_cell_row Tryz.results122 _ _ (w.heap.size+1) _ _ (0,0) _ rfl (setRow_heap _ _ _ P7 _ _ R1.out) Tryz.underlying176 rfl (by rw[HP7.out.1];exact HI7.out)
   ·rw[HP7e.out]
section
variable {P:Program} {a:Act} {o:Oper} {w:World}
theorem wpList_val {ops:Array Oper} {rest:List Oper} {Q:Exit→Act→World→Prop} (hgd:o.guard=none) (v:Value) (hr:(execOp a.eval o).run P w=.ok (.value v) w) (h:wpList P ops Q rest (a.put o.dst v) w):wpList P ops Q (o :: rest) a w :=
 wpList_plain hgd fun K hK=>by
  unfold Oper.wp
  rw[hr]
  exact hK _ _ h
theorem load_mid {ty:TypeId} {x:Operand} {b off:Nat} {cs:List Value} {d:TypeDesc} (ho:o.op=.load ty x) (hx:a.eval x=.pointer (some ⟨b,off,none⟩)) (h:w.rangeAt b off cs)
  (hu:P.underlying ty=some d) (hd:d.isRow=true) (hi:(P.info? ty).map (·.size)=some cs.length):(execOp a.eval o).run P w=.ok (.value (.agg cs.toArray)) w:=by
 have:=run_loadVar_mid (P:=P) w b off ty cs d h hu hd hi
 simp[execOp,ho,hx,Instr.loadAt,Instr.sureAddr,Result.andThen_ok,this]
end
theorem get_of {l:List Nat}:Cal.get l=if isBodyL l=true then (if Cal.Right (Cal.dateOf l) then .ok (Cal.sec (Cal.dateOf l)) else .error 1) else .error 4:=by
 rw[Cal.get]
 by_cases h:isBodyL l=true
 ·have h':=h
  rw[isBodyL,Bool.and_eq_true,Bool.and_eq_true,decide_eq_true_eq,decide_eq_true_eq] at h'
  rw[if_pos h,if_neg (by rw[h'.2.2];simp;exact ⟨h'.1,h'.2.1⟩)]
 ·rw[if_neg h,if_pos]
  rw[isBodyL,Bool.and_eq_true,Bool.and_eq_true,decide_eq_true_eq,decide_eq_true_eq] at h
  by_cases h1:l.length=15
  ·by_cases h2:l.getD 14 0=90
   ·right;right
    rw[←Bool.not_eq_true]
    exact fun h3=>h ⟨h1,h2,h3⟩
   ·exact .inr (.inl h2)
  ·exact .inl h1
theorem isBodyL_figs {l:List Nat} (h:isBodyL l=true):l.length=15∧∀ j,j<14→48≤l.getD j 0∧l.getD j 0≤57:=by
 rw[isBodyL,Bool.and_eq_true,Bool.and_eq_true,decide_eq_true_eq,decide_eq_true_eq] at h
 obtain ⟨h1,_,h3⟩:=h
 refine ⟨h1,fun j hj=>?_⟩
 rw[List.all_eq_true] at h3
 have h4:(l.take 14)[j]'(by rw[List.length_take];omega)=l.getD j 0:=by rw[List.getElem_take,List.getD_eq_getElem?_getD,List.getElem?_eq_getElem (by omega)];rfl
 have h5:=h3 _ (List.getElem_mem (show j<(l.take 14).length by rw[List.length_take];omega))
 rw[h4,Cal.fig,Bool.and_eq_true,decide_eq_true_eq,decide_eq_true_eq] at h5
 exact h5
theorem right_iff6 (A:Nat→Addr) (D:Cal.Date):(if Cal.rightI D.toI=true then #[Value.int .i64 ((Cal.sec D.toI.toD:Nat):Int),Value.nilIface] else #[Value.int .i64 0,errV A 1])=if Cal.Right D then #[Value.int .i64 ((Cal.sec D:Nat):Int),Value.nilIface] else #[Value.int .i64 0,errV A 1]:=by
 by_cases h:Cal.Right D
 ·obtain ⟨h1,h2⟩:=Cal.rightI_of h
  rw[if_pos h1,if_pos h,h2]
 ·have h1:¬ Cal.rightI D.toI=true:=fun e=>h (Cal.right_of e).1
  rw[if_neg h1,if_neg h]
theorem mGet_any (A:Nat→Addr) (W0:World) (hE:AllErrs W0 A) (hL:Lens W0):MoGet A W0:=by
 intro v l w hg hB hl
 have HIs:=hid (isBody_any v l w hB (by omega))
 rw[get_of]
 by_cases hb:isBodyL l=true
 ·rw[if_pos hb]
  rw[hb] at HIs
  obtain ⟨h15,hfg⟩:=isBodyL_figs hb
  have HPo:=hid (fun W=>pairsOf_any l h15 hfg W)
  obtain ⟨_,a,sb,so,c,rfl,hc,ha,hcell⟩:=hB
  rw[h15] at hc ha hcell HIs ⊢
  obtain ⟨rfl,hsb⟩:=ha (by omega)
  have HRg:Hid (∀ W,w.grownBy W none→W.rangeAt sb so (cellsL l)):=hid (fun W hW j v hj=>by
   have hj2:j<l.length:=by rw[←cellsL_len];exact (List.getElem?_eq_some_iff.1 hj).1
   rw[cellsL_at l j hj2] at hj
   obtain rfl:=Option.some.inj hj
   rw[World.cell?_of_block (hW.block sb hsb (by simp))]
   exact hcell j (by omega))
  have HL15:Hid ((Tryz.prog.info? 178).map (·.size)=some (cellsL l).length):=hid (by rw[cellsL_len,h15];kernel_rfl)
  have HAt:Hid (∀ W,(Instr.arrayAt 178 (.slice (some ⟨sb,so,none⟩) 15 c)).run Tryz.prog W=.ok (.pointer (some ⟨sb,so,none⟩)) W):=hid (fun W=>run_arrayAt W 178 _ 15 _ 15 c Tryz.underlying178 (Nat.le_refl _))
  have HSe:=fun W hW=>mSec_any A W0 hE hL (Cal.dateOf l).toI W (by
   have hn:∀ i,i≤12→Cal.num2 l i≤99:=fun i hi=>by
    have h1:=hfg i (by omega)
    have h2:=hfg (i+1) (by omega)
    unfold Cal.num2
    omega
   have h0:=hn 0 (by omega)
   have h2:=hn 2 (by omega)
   have h4:=hn 4 (by omega)
   have h6:=hn 6 (by omega)
   have h8:=hn 8 (by omega)
   have h10:=hn 10 (by omega)
   have h12:=hn 12 (by omega)
   simp only[Cal.Date.toI,Cal.dateOf,inI]
   omega) (grown_trans hg hW)
  have hn:∀ i,i≤12→Cal.num2 l i≤99:=fun i hi=>by
   have h1:=hfg i (by omega)
   have h2:=hfg (i+1) (by omega)
   unfold Cal.num2
   omega
  have HE6:Hid (moGot A (if Cal.Right (Cal.dateOf l) then Except.ok (Cal.sec (Cal.dateOf l)) else Except.error 1)=.tuple (if Cal.rightI (Cal.dateOf l).toI=true then #[Value.int .i64 ((Cal.sec (Cal.dateOf l).toI.toD:Nat):Int),Value.nilIface] else #[Value.int .i64 0,errV A 1])):=hid (by
   rw[right_iff6]
   split <;> rfl)
  obtain ⟨R,hR⟩:∃ R:Array Value,R=(if Cal.rightI (Cal.dateOf l).toI=true then #[Value.int .i64 ((Cal.sec (Cal.dateOf l).toI.toD:Nat):Int),Value.nilIface] else #[Value.int .i64 0,errV A 1]):=⟨_,rfl⟩
  have HRc:Hid (∃ x y,R=#[x,y]):=hid (by rw[hR];split <;> exact ⟨_,_,rfl⟩)
  rw[←hR] at HSe HE6
  rw[HE6.out]
  obtain ⟨rx,ry,rfl⟩:=HRc.out
  have hdv:dV (Cal.dateOf l).toI=.agg #[.int .i64 (100*((Cal.num2 l 0:Nat):Int)+((Cal.num2 l 2:Nat):Int)),.int .i64 ((Cal.num2 l 4:Nat):Int),.int .i64 ((Cal.num2 l 6:Nat):Int),.int .i64 ((Cal.num2 l 8:Nat):Int),.int .i64 ((Cal.num2 l 10:Nat):Int),.int .i64 ((Cal.num2 l 12:Nat):Int)]:=by
   have:(((Cal.num2 l 0)*100+Cal.num2 l 2:Nat):Int)=100*((Cal.num2 l 0:Nat):Int)+((Cal.num2 l 2:Nat):Int):=by omega
   rw[←this]
   rfl
  rw[hdv] at HSe
  have hpr:(cellsI (pairRow l 7)).toArray=#[.int .i64 ((Cal.num2 l 0:Nat):Int),.int .i64 ((Cal.num2 l 2:Nat):Int),.int .i64 ((Cal.num2 l 4:Nat):Int),.int .i64 ((Cal.num2 l 6:Nat):Int),.int .i64 ((Cal.num2 l 8:Nat):Int),.int .i64 ((Cal.num2 l 10:Nat):Int),.int .i64 ((Cal.num2 l 12:Nat):Int)]:=rfl
  have k0:=hn 0 (by omega)
  have k2:=hn 2 (by omega)
  generalize Cal.num2 l 0=n0 at *
  generalize Cal.num2 l 2=n1 at *
  generalize Cal.num2 l 4=n2 at *
  generalize Cal.num2 l 6=n3 at *
  generalize Cal.num2 l 8=n4 at *
  generalize Cal.num2 l 10=n5 at *
  generalize Cal.num2 l 12=n6 at *
  have HSec:=hid HSe
  obtain ⟨PR,hPR⟩:∃ PR,PR=(cellsI (pairRow l 7)).toArray:=⟨_,rfl⟩
  rw[←hPR] at HPo hpr
  have HPR:=hid hpr
  have HPs:Hid (PR.size=7∧PR.all (·.oneCell')=true):=hid (by rw[hpr];exact ⟨rfl,by simp[Value.oneCell']⟩)
  have HI7:Hid ((Tryz.prog.info? 176).map (·.size)=some 7):=hid (by kernel_rfl)
  obtain ⟨CL,hCL⟩:∃ CL,CL=cellsL l:=⟨_,rfl⟩
  rw[←hCL] at HRg HL15 HPo
  clear hPR hpr hdv HSe hR HE6 HRc hcell hsb hfg hn hb hl h15 hCL hc
  go_enter Tryz.func94,Tryz.ntmps94
  go_wp2_with (first
   |(go_at_call 121;refine HIs.out.mono ?_;rintro e w1 ⟨rfl,hg1⟩;have HG1:=hid hg1;have hat:=HAt.out w1;clear hg1)
   |(refine wpList_val (by rfl) (.agg CL.toArray) (load_mid (by rfl) (by rfl) (HRg.out w1 HG1.out) Tryz.underlying178 (by rfl) HL15.out) ?_;clear hat)
   |(go_at_call 122;refine (HPo.out w1).mono ?_;rintro e w2 ⟨rfl,hg2⟩;have HG2:=hid (grown_trans HG1.out hg2);clear hg2)
   |(refine wpList_store_row (by rfl) 176 (.tmp 4) (.tmp 12) (by rfl) w2.heap.size PR (by rfl) (by rfl) _ _ (alloc_at w2 _) (by rw[HPs.out.1];exact HI7.out) (by rw[HPs.out.1];rfl) HPs.out.2 ?_;obtain ⟨w3,hx⟩:∃ W:World,W=(w2.alloc (.cells #[.int .i64 0,.int .i64 0,.int .i64 0,.int .i64 0,.int .i64 0,.int .i64 0,.int .i64 0] 176)).setRow w2.heap.size PR:=⟨_,rfl⟩;rw[←hx];have hst:=stored (z:=#[.int .i64 0,.int .i64 0,.int .i64 0,.int .i64 0,.int .i64 0,.int .i64 0,.int .i64 0]) (DC:=PR) (T:=176) HG2.out;rw[←hx,HPR.out] at hst;have HS:=hid hst;have x0:=cell_blk hst.2.2 0 rfl;have x1:=cell_blk hst.2.2 1 rfl;have x2:=cell_blk hst.2.2 2 rfl;have x3:=cell_blk hst.2.2 3 rfl;have x4:=cell_blk hst.2.2 4 rfl;have x5:=cell_blk hst.2.2 5 rfl;have x6:=cell_blk hst.2.2 6 rfl;clear hst hx)
   |(go_at_call 123;refine (HSec.out w3 HS.out.1).mono ?_;rintro e w4 ⟨hg4,rfl⟩;have HG4:=hid (grown_trans HS.out.1 hg4);clear hg4))
  go_ret2
  exact ⟨HG4.out,rfl⟩
 ·rw[if_neg hb]
  have hf:isBodyL l=false:=by rw[←Bool.not_eq_true];exact hb
  rw[hf] at HIs
  have HErr:=hid (fun W hW=>err_form (hE.grown (w':=W) (grown_trans hg hW)))
  simp only[moGot]
  clear hb hf hB hl
  go_enter Tryz.func94,Tryz.ntmps94
  go_wp2_with (go_at_call 121;refine HIs.out.mono ?_;rintro e w1 ⟨rfl,hg1⟩;have HG1:=hid hg1;have he:=HErr.out w1 hg1;clear hg1)
  go_quiet (fail)
  go_wp2
  go_ret2
  exact ⟨grown_drewN HG1.out _,rfl⟩
end Go.Proofs.YtjjbkpjjmbfdhaaGreatDoor
