import Derived.Test.YtjjbkpjjmbfdhaaGreatDoorZb00
import Derived.Test.YtjjbkpjjmbfdhaaGreatDoorZb10
import Derived.Test.YtjjbkpjjmbfdhaaGreatDoorZb11
import Derived.Test.YtjjbkpjjmbfdhaaGreatDoorZb12
import Derived.Test.YtjjbkpjjmbfdhaaGreatDoorZb13
import Derived.Test.YtjjbkpjjmbfdhaaGreatDoorZb31
import Derived.Test.YtjjbkpjjmbfdhaaGreatDoorChecked
import Derived.WalkKit
import Derived.BigQuiet
import Derived.Lib.Hide
import Derived.Laws.RangeString
import Derived.Laws.RangeAny
import Derived.Lib.RuneCount
set_option linter.unusedVariables false
set_option linter.unusedSimpArgs false
set_option maxRecDepth 100000
set_option maxHeartbeats 2000000
namespace Go.Proofs.YtjjbkpjjmbfdhaaGreatDoor
open Lib (hid)
open Go.RowKit
theorem iU8:(Tryz.prog.info? 5).map (fun i=>(i.zero,i.size,i.bytes))=some (some (.int .u8 0),1,1):=by kernel_rfl
theorem grow_any (n:Nat) (w:World) (hn:n≤100000000) :
  Calls Tryz.prog 144 #[.slice none 0 0,.int .i64 n] w fun e w'=>∃ v,e=.returned v∧FrW w w' v []:=by
 rcases Nat.eq_zero_or_pos n with h0|h0
 ·subst h0
  exact (Any8.slices_Grow_room Tryz.laysGrow none 0 0 0 w (Nat.le_refl _) (by omega) (by omega) (by omega)).mono (by
   rintro e w' ⟨rfl,rfl⟩
   exact ⟨_,rfl,grown_refl _ _,ownsRow_empty _ _ _⟩)
 ·obtain ⟨i0,h1,h2,h3,h4⟩:=info_parts iU8
  exact (Any8.slices_Grow_grow Tryz.laysGrow i0 (.int .u8 0) h1 h2 (by rw[h3];decide) none 0 0 n [] w (Nat.le_refl _) (by omega) (by rw[h4];omega) (by omega) (by simp) (fun _=>rfl) (fun _ h=>by cases h)).mono (by
   rintro e w' ⟨rfl,rfl⟩
   have hge:=grownCap_ge w (0+n) 0 (Tryz.laysGrow_ren.t 25)
   refine ⟨_,rfl,grown_alloc (grown_drewN (grown_refl _ _) 1) _,by simp[cellsL],.inr ⟨_,_,_,rfl,Nat.le_refl _,alloc_at _ _,Nat.zero_le _,?_,?_,by simp[cellsL]⟩⟩
   ·exact grownCap_le_maxLen w _ _ _ (by unfold maxLen;omega)
   ·simp only[Array.size_append,List.size_toArray,size_zeroCells]
    simp[Value.cells]
    rw[Nat.zero_add] at hge
    omega)
def lensTo (L:List (List Nat)) (k:Nat):Nat:=(L.take k).flatten.length
theorem lensTo_next (L:List (List Nat)) {k:Nat} (hk:k<L.length):lensTo L (k+1)=lensTo L k+(L.getD k []).length:=by
 rw[lensTo,cat_take L hk,List.length_append];rfl
theorem cat_len70:∀ (L:List (List Nat)),(∀ x∈L,x.length≤70000)→L.flatten.length≤70000*L.length
 |[],_=>by simp
 |x :: r,h=>by
  have h1:=cat_len70 r (fun y hy=>h y (List.mem_cons_of_mem _ hy))
  have h2:=h x (List.mem_cons_self ..)
  rw[List.flatten_cons,List.length_append,List.length_cons]
  omega
theorem lensTo_le (L:List (List Nat)) (h:∀ x∈L,x.length≤70000) (h20:L.length≤1000) (k:Nat):lensTo L k≤70000000:=by
 have:=cat_len70 (L.take k) (fun x hx=>h x (List.mem_of_mem_take hx))
 rw[List.length_take] at this
 unfold lensTo
 omega
theorem concat_any (a:Option Addr) (n c:Nat) (ys:List Value) (L:List (List Nat)) (w:World) (hV:Vals w (.slice a n c) ys) (hE:Each w ys L) (h20:n≤1000) (h100:∀ x∈L,x.length≤70000) :
  Calls Tryz.prog 112 #[.slice a n c] w fun e w'=>∃ u,e=.returned u∧w.grownBy w' none∧Bytes w' u L.flatten∧Whole0 u:=by
 have hln:L.length=n:=by rw[←hE.len];exact hV.cap.1.symm
 have HLn:=hid hln
 have HEl:=hid hE.lt
 obtain ⟨a1,sb,so,c1,he,hc,ha,hcell⟩:=hV
 simp only[Value.slice.injEq] at he
 obtain ⟨rfl,hny,rfl⟩:=he
 rw[←hny] at hc ha
 have HIn:Hid (∀ W,w.grownBy W none→∀ j,j<n→a=some ⟨sb,so,none⟩∧∃ y ya yc,y=.slice ya (L.getD j []).length yc∧W.cell? ⟨sb,so+j,none⟩=some y∧Bytes W y (L.getD j [])∧Whole0 y):=hid (fun W hW j hj=>by
  obtain ⟨y,h1,h2,h3⟩:=hE.at_ j (by omega)
  have h2':=h2
  obtain ⟨_,ya,_,_,yc,rfl,_⟩:=h2'
  exact ⟨(ha (by omega)).1,_,ya,yc,rfl,by rw[World.cell?_of_block (hW.block sb (ha (by omega)).2 (by simp))];exact hcell j _ h1,h2.grown hW,h3⟩)
 have HLe:Hid (∀ k,lensTo L k≤70000000):=hid (lensTo_le L h100 (by omega))
 have HNx:Hid (∀ k,k<n→lensTo L (k+1)=lensTo L k+(L.getD k []).length):=hid (fun k hk=>lensTo_next L (by omega))
 have HTk:Hid (∀ i,i<n→(L.take (i+1)).flatten=(L.take i).flatten++L.getD i []):=hid (fun i hi=>cat_take _ (by omega))
 have HTe:Hid ((L.take n).flatten=L.flatten):=hid (by rw[List.take_of_length_le (by omega)])
 have HGr:Hid (∀ k W,Calls Tryz.prog 144 #[.slice none 0 0,.int .i64 (lensTo L k:Nat)] W fun e w'=>∃ v,e=.returned v∧FrW W w' v []):=hid (fun k W=>grow_any _ W (by have:=HLe.out k;omega))
 clear hE ha hcell hny hln h100
 go_enter Tryz.func112,Tryz.ntmps112
 go_wp2
 go_loopw [3,11] (fun t i wr=>∃ k:Nat,k≤n∧i=.int .i64 (k:Int)∧t=.int .i64 (lensTo L k:Nat)∧wr=w) (fun _ i _=>n-(intOf i).toNat)
 case atStart=>exact ⟨0,Nat.zero_le _,rfl,rfl,rfl⟩
 case round =>
  obtain ⟨k,hk,rfl,rfl,rfl⟩:=hrel
  by_cases hkn:k<n
  ·obtain ⟨rfl,y,ya,yc,rfl,hy,_,_⟩:=HIn.out wr (grown_refl _ _) k hkn
   have h1:=HNx.out k hkn
   have h2:=HLe.out k
   have h3:=HLe.out (k+1)
   generalize (L.getD k []).length=yl at *
   have e1:IntKind.i64.wrap ((lensTo L k:Nat)+(yl:Int))=(lensTo L (k+1):Nat):=by rw[IntKind.wrap_i64];omega
   have HX:=hid h1
   generalize lensTo L k=s at *
   have z0:¬ ((s:Int)+yl<0):=by omega
   clear h1
   go_wp2
   go_roundw
   case rel=>exact ⟨k+1,by omega,by go_num,by rw[HX.out],trivial⟩
   case measure=>simp[intOf];omega
  ·obtain rfl:k=n:=by omega
   obtain ⟨wo,rfl⟩:∃ wo:World,wo=wr:=⟨_,rfl⟩
   go_wp2_with (go_at_call 144;refine (HGr.out k wo).mono ?_;rintro e w3 ⟨v3,rfl,hf3⟩;have F3:=hid hf3;clear hf3)
   go_loopw [6,27] (fun v i wq=>∃ m:Nat,m≤k∧i=.int .i64 (m:Int)∧FrW wo wq v (L.take m).flatten) (fun _ i _=>k-(intOf i).toNat)
   case atStart=>exact ⟨0,Nat.zero_le _,rfl,F3.out⟩
   case round =>
    obtain ⟨m,hm,rfl,hF⟩:=hrel
    have HF:=hid hF
    by_cases hmk:m<k
    ·obtain ⟨rfl,y,ya,yc,hye,hy,hyb,hy0⟩:=HIn.out _ hF.grown m hmk
     have HYb:=hid hyb
     have HY0:=hid hy0
     have HTk2:=hid (HTk.out m hmk)
     have HP2:=hid (HLe.out (m+1))
     clear hF hyb hy0 hye
     go_wp2_with (at_builtin;refine wpList_appB (by rfl) (.tmp 31) (.tmp 32) 27 (by rfl) wo.heap.size 5 (.int .u8 0) 1 Tryz.underlying27 (by kernel_rfl) rfl (by decide) _ _ _ (by rfl) HF.out.own _ _ (by rfl) HYb.out HY0.out (by have h1:=HP2.out;rw[lensTo,HTk2.out,List.length_append] at h1;omega) HF.out.le ?_;intro v4 w4 ho4 hg4;have F4:=hid (HF.out.step (l':=(L.take (m+1)).flatten) ho4 hg4 (by rw[HTk2.out];exact (cellsL_append _ _).symm));clear ho4 hg4)
     go_roundw
     case rel=>exact ⟨m+1,by omega,by go_num,F4.out⟩
     case measure=>simp[intOf];omega
    ·obtain rfl:m=k:=by omega
     rw[HTe.out] at HF
     clear hF
     go_wp2
     go_ret
     exact ⟨_,rfl,HF.out.grown,Bytes.own HF.out.own HEl.out,Whole0.own HF.out.own⟩
end Go.Proofs.YtjjbkpjjmbfdhaaGreatDoor
namespace Go.Proofs.YtjjbkpjjmbfdhaaGreatDoor
open Lib (hid)
open Go.RowKit Go.Sort
def elV (xs:List Value) (i:Nat):Value:=if (xs.getD i (.slice none 0 0)).oneCell'=true then xs.getD i (.slice none 0 0) else .slice none 0 0
theorem elV_one (xs:List Value):∀ i,(elV xs i).oneCell'=true:=by
 intro i
 unfold elV
 split
 ·assumption
 ·rfl
def keyOf (L:List (List Nat)) (i:Nat):List Nat:=L.getD i []
theorem elV_at {xs:List Value} (h:∀ u∈xs,u.oneCell'=true) {i:Nat} (hi:i<xs.length):xs[i]?=some (elV xs i):=by
 have e:xs.getD i (.slice none 0 0)=xs[i]:=by rw[List.getD_eq_getElem?_getD,List.getElem?_eq_getElem hi];rfl
 rw[elV,e,if_pos (h _ (List.getElem_mem hi)),List.getElem?_eq_getElem hi]
theorem elV_bytes {w:World} {xs:List Value} {L:List (List Nat)} (hE:Each w xs L) (i:Nat):Bytes w (elV xs i) (keyOf L i)∧Whole0 (elV xs i):=by
 by_cases hi:i<L.length
 ·obtain ⟨v,h1,h2,h3⟩:=hE.at_ i hi
  have h4:=elV_at hE.one (i:=i) (by rw[hE.len];exact hi)
  rw[h1] at h4
  obtain rfl:=Option.some.inj h4
  exact ⟨h2,h3⟩
 ·have e1:keyOf L i=[]:=by rw[keyOf,List.getD_eq_getElem?_getD,List.getElem?_eq_none (by omega)];rfl
  have e2:elV xs i=.slice none 0 0:=by
   rw[elV,List.getD_eq_getElem?_getD,List.getElem?_eq_none (by rw[hE.len];omega)]
   rfl
  rw[e1,e2]
  exact ⟨⟨by simp,none,0,0,0,rfl,Nat.le_refl _,fun h=>absurd h (by simp),fun j hj=>absurd hj (by simp)⟩,fun n c e=>by cases e;exact ⟨rfl,rfl⟩⟩
def cfOf (L:List (List Nat)) (i j:Nat):Int:=Bc.cmp (keyOf L i) (keyOf L j)
theorem lt_cf {L:List (List Nat)} (h8:∀ i,∀ x∈keyOf L i,x<256) (i j:Nat):Go.Proofs.ltOf (cfOf L) i j=Cal.lex (keyOf L i) (keyOf L j):=Bc.cmp_lex (h8 i) (h8 j)
theorem swo_cf {L:List (List Nat)} (h8:∀ i,∀ x∈keyOf L i,x<256):SWO (Go.Proofs.ltOf (cfOf L)) where
 irrefl x:=by rw[lt_cf h8];exact Pt.lex_irr _
 trans x y z h1 h2:=by rw[lt_cf h8] at *;exact Pt.lex_trans _ _ _ h1 h2
 ntrans x y z h1 h2:=by
  rw[lt_cf h8] at *
  exact Pt.le_trans (a:=keyOf L z) (b:=keyOf L y) (c:=keyOf L x) h2 h1
theorem sorted_of {L:List (List Nat)} (h8:∀ i,∀ x∈keyOf L i,x<256) {d:Array Nat} (hp:PermIn 0 (Array.range L.length).size (Array.range L.length) d) (hs:SortedIn (Go.Proofs.ltOf (cfOf L)) 0 (Array.range L.length).size d) :
  d.size=L.length∧Pt.sort L=d.toList.map (keyOf L):=by
 rw[Array.size_range] at hp hs
 obtain ⟨h1,_,h3⟩:=hp
 rw[Array.size_range] at h1
 refine ⟨h1,?_⟩
 have e1:d.extract 0 L.length=d:=by rw[←h1];simp
 have e2:(Array.range L.length).extract 0 L.length=Array.range L.length:=by
  have:(Array.range L.length).size=L.length:=Array.size_range
  conv=>lhs;rw[←this]
  simp
 rw[e1,e2] at h3
 have hL:(Array.range L.length).toList.map (keyOf L)=L:=by
  apply List.ext_getElem?
  intro i
  rw[Array.toList_range,List.getElem?_map]
  by_cases hi:i<L.length
  ·rw[List.getElem?_range hi,List.getElem?_eq_getElem hi]
   simp[keyOf,hi]
  ·rw[List.getElem?_eq_none (by simp;omega),List.getElem?_eq_none (by omega)]
   rfl
 refine Pt.sort_is ?_ (by have:=h3.map (keyOf L);rw[hL] at this;exact this)
 unfold Pt.Sorted
 rw[List.pairwise_map,List.pairwise_iff_getElem]
 intro i j hi hj hij
 rw[Array.length_toList] at hi hj
 have:=hs i j (Nat.zero_le _) hij (by omega)
 rw[lt_cf h8,getElem!_pos d i hi,getElem!_pos d j hj] at this
 simpa [Pt.le] using this
theorem grown_sortW {α:Type} [Inhabited α] {W w:World} (hg:W.grownBy w none) {blk:Nat} (hb:W.heap.size≤blk) (enc:α→Value) (off m:Nat) (d:Array α) (os:Array Obj):W.grownBy (Go.Proofs.sortWorld enc w blk off m d os) none:=by
 have e:∀ k,k<w.heap.size→k≠blk→(Go.Proofs.sortWorld enc w blk off m d os).heap[k]?=w.heap[k]?:=by
  intro k hk hne
  show ((putRow enc (Sort.ahead w m) blk off d).heap++os)[k]?=_
  rw[Array.getElem?_append_left (by rw[size_putRow];exact hk)]
  show (w.heap.modify blk _)[k]?=_
  rw[Array.getElem?_modify,if_neg (Ne.symm hne)]
 refine ⟨hg.os,hg.tape,hg.output,?_,fun k hk _=>?_⟩
 ·show W.heap.size≤((putRow enc (Sort.ahead w m) blk off d).heap++os).size
  rw[Array.size_append,size_putRow]
  exact Nat.le_trans hg.size (Nat.le_add_right _ _)
 ·rw[e k (Nat.lt_of_lt_of_le hk hg.size) (by omega)]
  exact hg.block k hk (by simp)
theorem each_map {w:World} {f:Nat→Value} {g:Nat→List Nat} (h:∀ i,Bytes w (f i) (g i)∧Whole0 (f i)):∀ l:List Nat,Each w (l.map f) (l.map g)
 |[]=>trivial
 |i :: l=>⟨h i,each_map h l⟩
theorem sort_any {W w:World} {v:Value} {ys:List Value} {L:List (List Nat)} (hF:FrV W w v ys) (hE:Each W ys L) (h20:L.length≤1000) :
  Calls Tryz.prog 142 #[v,cmpV] w fun e w'=>e=.returned (.tuple #[])∧W.grownBy w' none∧∃ xs,Vals w' v xs∧Each w' xs (Pt.sort L):=by
 have hl:=hE.len
 have h8:∀ i,∀ x∈keyOf L i,x<256:=fun i x hx=>((elV_bytes hE i).1).lt x hx
 obtain ⟨hn,hown⟩:=hF.own
 rcases hown with ⟨hv,h0⟩|⟨g,cap,cur,hv,hb,hg,hnc,hcm,hcs,htk⟩
 ·subst hv
  have hy:ys=[]:=List.eq_nil_of_length_eq_zero h0
  subst hy
  have hL:L=[]:=List.eq_nil_of_length_eq_zero (by rw[←hl];rfl)
  subst hL
  exact (AnyF.slices_SortFunc_none (P:=Tryz.prog) (ρ:=Tryz.laysSort_ren) { Tryz.laysSort with } none 0 cmpV w).mono (by
   rintro e w' ⟨rfl,rfl⟩
   exact ⟨rfl,hF.grown,[],Vals.nil _,trivial⟩)
 ·subst hv
  rw[Nat.mul_one] at htk hcs
  have hcell:∀ j,j<ys.length→w.cell? ⟨g,j,none⟩=some (elV ys j):=fun j hj=>by
   have:cur[j]?=some (elV ys j):=by
    rw[←elV_at hE.one hj,←htk,List.getElem?_take,if_pos hj]
    simp
   exact cell_blk hg j this
  have hH:Holds (elV ys) w g 0 (Array.range L.length):=fun j hj=>by
   rw[Array.size_range] at hj
   rw[getElem!_pos _ j (by rw[Array.size_range];exact hj),Array.getElem_range,Nat.zero_add]
   exact ⟨hcell j (by omega),free_blk hg _⟩
  have hgl:g<w.heap.size:=blk_lt hg
  have hcmp:CmpLays1 Tryz.prog 143 #[] (elV ys) (cfOf L) g 0 (Array.range L.length).size w:=CmpReads.lays (fun m os dk _ x y=>by
   have hgr:=grown_sortW hF.grown hb (elV ys) 0 m dk os
   have hx:=elV_bytes hE x
   have hy:=elV_bytes hE y
   exact (compareB_any _ _ _ _ _ (hx.1.grown hgr) (hy.1.grown hgr) hx.2 hy.2).mono (by
    rintro e w' ⟨rfl,rfl⟩
    exact ⟨rfl,0,rfl⟩))
  have hc:=Any.slices_SortFunc Tryz.laysSort (elV ys) (elV_one ys) (cfOf L) (swo_cf h8) 143 #[] g 0 cap (Array.range L.length) w (enters_of Tryz.func143 (by kernel_rfl) rfl) hcmp hH hgl (by rw[Array.size_range];omega)
  rw[Array.size_range,←hl] at hc
  refine hc.mono ?_
  rintro e w' ⟨rfl,d,m,os,hp,hs,rfl⟩
  rw[hl] at hp hs
  have hso:=sorted_of h8 (d:=d) (by rw[Array.size_range];exact hp) (by rw[Array.size_range];exact hs)
  have hgr:=grown_sortW hF.grown hb (elV ys) 0 m d os
  have hH2:Holds (elV ys) (sortWorld (elV ys) w g 0 m d os) g 0 d:=holds_sortWorld (elV ys) w g 0 m (Array.range L.length) d os hgl hH (by rw[hso.1,Array.size_range])
  have hdl:d.toList.length=ys.length:=by rw[Array.length_toList,hso.1,hl]
  refine ⟨rfl,hgr,d.toList.map (elV ys),?_,?_⟩
  ·refine ⟨some ⟨g,0,none⟩,g,0,cap,by rw[List.length_map,hdl],by rw[List.length_map,hdl];exact hnc,fun _=>⟨rfl,?_⟩,fun j u hj=>?_⟩
   ·show g<((putRow (elV ys) (Sort.ahead w m) g 0 d).heap++os).size
    rw[Array.size_append,size_putRow]
    exact Nat.lt_of_lt_of_le hgl (Nat.le_add_right _ _)
   ·rw[List.getElem?_map] at hj
    obtain ⟨i,hi,rfl⟩:=Option.map_eq_some_iff.1 hj
    have hjl:j<d.size:=by have:=(List.getElem?_eq_some_iff.1 hi).1;rwa [Array.length_toList] at this
    have:=(hH2 j hjl).1
    rw[getElem!_pos d j hjl] at this
    rw[this]
    congr 2
    have h2:=(List.getElem?_eq_some_iff.1 hi).2
    rw[←h2]
    simp
  ·rw[hso.2]
   exact each_map (fun i=>⟨(elV_bytes hE i).1.grown hgr,(elV_bytes hE i).2⟩) _
theorem iLL:((Tryz.prog.info? 27).map (fun i=>(i.zero,i.size,i.bytes)))=some (some (.slice none 0 0),1,24):=by kernel_rfl
theorem clone_any2 (a:Option Addr) (n c:Nat) (ys:List Value) (L:List (List Nat)) (w:World) (hV:Vals w (.slice a n c) ys) (hE:Each w ys L) (h0:Whole0 (.slice a n c)) (h20:n≤1000) :
  Calls Tryz.prog 141 #[.slice a n c] w fun e w'=>∃ v,e=.returned v∧FrV w w' v ys:=by
 have heq:∀ (w:World) (a:Option Addr),(binOp .eql 95 (.slice a n c) (.slice none 0 0)).run Tryz.prog w=.ok (.bool a.isNone) w:=fun w a=>Lib.run_eql_slice_nil w 95 27 a n c 0 0 Tryz.underlying95
 have hyl:ys.length=n:=hV.cap.1.symm
 match a,hV,h0 with
 |none,hV,h0 =>
  obtain ⟨h1,h2⟩:=h0 _ _ rfl
  subst h1
  subst h2
  have hy:ys=[]:=List.eq_nil_of_length_eq_zero hyl
  subst hy
  clear hV hE h0
  go_enter Tryz.func141,Tryz.ntmps141
  go_wp2
  go_ret
  exact ⟨_,rfl,grown_refl _ _,ownsRow_empty _ _ _⟩
 |some ad,hV,h0 =>
  have HV:=hid hV
  have HE:=hid hE
  have F1:=hid (FrV.first w)
  have HYl:=hid hyl
  have HI:=hid iLL
  clear hV hE h0 hyl
  go_enter Tryz.func141,Tryz.ntmps141
  go_wp2_with (at_builtin;refine wpList_appV (by rfl) (.tmp 5) (.tmp 6) 95 (by rfl) w.heap.size 27 (.slice none 0 0) 24 Tryz.underlying95 HI.out rfl (by decide) _ _ _ (by rfl) F1.out.own _ ys (by rfl) (HV.out.grown F1.out.grown) (Whole0.some _ _ _) HE.out.one (by have:=HYl.out;simp;omega) (by rw[alloc_size];omega) ?_;intro v2 w2 ho2 hg2 _;have F2:=hid (F1.out.step ho2 hg2);clear ho2 hg2)
  go_ret
  exact ⟨_,rfl,F2.out⟩
theorem concat_v (v:Value) (ys:List Value) (L:List (List Nat)) (w:World) (hV:Vals w v ys) (hE:Each w ys L) (h20:L.length≤1000) (h100:∀ x∈L,x.length≤70000) :
  Calls Tryz.prog 112 #[v] w fun e w'=>∃ u,e=.returned u∧w.grownBy w' none∧Bytes w' u L.flatten∧Whole0 u:=by
 have hV':=hV
 obtain ⟨a,sb,so,c,rfl,_⟩:=hV'
 exact concat_any a _ c ys L w hV hE (by rw[hE.len];exact h20) h100
theorem set_wide (a:Option Addr) (n c:Nat) (ys:List Value) (L:List (List Nat)) (W:World) (h20:n≤1000) (h100:∀ x∈L,x.length≤70000) (hV:Vals W (.slice a n c) ys) (hE:Each W ys L) (h0:Whole0 (.slice a n c)):Calls Tryz.prog 111 #[.slice a n c] W fun e w'=>∃ u,e=.returned u∧W.grownBy w' none∧Bytes w' u (Pt.sort L).flatten∧Whole0 u:=by
 have hln:L.length=n:=by rw[←hE.len];exact hV.cap.1.symm
 have hC:=clone_any2 a n c ys L W hV hE h0 h20
 have HS:Hid (∀ w v,FrV W w v ys→Calls Tryz.prog 142 #[v,cmpV] w fun e w'=>e=.returned (.tuple #[])∧W.grownBy w' none∧∃ xs,Vals w' v xs∧Each w' xs (Pt.sort L)):=hid (fun w v hF=>sort_any hF hE (by omega))
 have HK:Hid (∀ w v xs,Vals w v xs→Each w xs (Pt.sort L)→Calls Tryz.prog 112 #[v] w fun e w'=>∃ u,e=.returned u∧w.grownBy w' none∧Bytes w' u (Pt.sort L).flatten∧Whole0 u):=hid (fun w v xs h1 h2=>concat_v v xs _ w h1 h2 (by rw[Pt.sort_len];omega) (fun x hx=>h100 x (Pt.sort_mem.1 hx)))
 have HC:=hid hC
 clear hV hE h0 hln hC h100
 go_enter Tryz.func111,Tryz.ntmps111
 go_wp2_with (first
  |(go_at_call 141;refine HC.out.mono ?_;rintro e w2 ⟨v,rfl,hf2⟩;have F2:=hid hf2;clear hf2)
  |(go_at_call 142;refine (HS.out _ _ F2.out).mono ?_;rintro e w3 ⟨rfl,hg3,xs,hv3,he3⟩;have HG3:=hid hg3;have HV3:=hid hv3;have HE3:=hid he3;clear hg3 hv3 he3)
  |(go_at_call 112;refine (HK.out _ _ _ HV3.out HE3.out).mono ?_;rintro e w4 ⟨u,rfl,hg4,hb4⟩;have HW4:=hid hb4.2;replace hb4:=hb4.1;have HG4:=hid hg4;have HB4:=hid hb4;clear hg4 hb4))
 go_ret
 exact ⟨_,rfl,grown_trans HG3.out HG4.out,HB4.out,HW4.out⟩
end Go.Proofs.YtjjbkpjjmbfdhaaGreatDoor
namespace Go.Proofs.YtjjbkpjjmbfdhaaGreatDoor
open Lib (hid)
open Go.RowKit
def U8 (w:World):Prop:=Lib.Utf8Tabs 29 30 w
theorem U8.grown {w w':World} (h:U8 w) (hg:w.grownBy w' none):U8 w':=by
 have key:∀ (a:Addr) (v:Value),w.cell? a=some v→w'.cell? a=some v:=fun a v hv =>
  (World.cell?_of_block (hg.block _ (World.block_lt_of_cell? w _ hv) (by simp))).trans hv
 exact ⟨fun c hc=>key _ _ (h.1 c hc),fun i hi=>⟨key _ _ (h.2 i hi).1,key _ _ (h.2 i hi).2⟩⟩
theorem valid_any (s:ByteArray) (w:World) (hs:s.size≤1000) (hT:U8 w) :
  Calls Tryz.prog 171 #[.string s] w fun e w'=>e=.returned (.bool (Lib.validD s.data.toList))∧w.grownBy w' none :=
 (Any.utf8_ValidString Tryz.lays196 s w (by omega) hT).mono fun e w' ⟨h1,h2⟩=>⟨h1,⟨h2.os,h2.tape,h2.output,h2.size,fun k hk _=>h2.block k hk⟩⟩
theorem plain_any (w:World) (hT:U8 w):TxPlain w:=by
 intro s W hs hg
 have hV:=valid_any s W hs (hT.grown hg)
 have hz:s.data.toList.length=s.size:=by rw[Array.length_toList];rfl
 by_cases hv:Lib.validD s.data.toList=true
 ·rw[hv] at hV
  have eP:Pt.plain (strL s)=Pt.plain (Pt.nums (s.data.toList.drop 0)):=by rw[List.drop_zero];rfl
  rw[eP]
  have hv0:Lib.validD (s.data.toList.drop 0)=true:=by rw[List.drop_zero];exact hv
  obtain ⟨R,hR⟩:∃ R,R=Pt.plain (Pt.nums (s.data.toList.drop 0)):=⟨_,rfl⟩
  rw[←hR]
  have H0:Hid (Lib.validD (s.data.toList.drop 0)=true∧R=Pt.plain (Pt.nums (s.data.toList.drop 0))):=hid ⟨hv0,hR⟩
  have HZ:=hid hz
  clear hR hv0 eP hv hz hT
  go_enter Tryz.func137,Tryz.ntmps137
  go_wp2_with (go_at_call 171;refine hV.mono ?_;rintro e w2 ⟨rfl,hg2⟩;have HG2:=hid hg2;clear hg2)
  go_loopw [4] (fun _ w'=>∃ pos,w'=w2.iter s pos∧Hid (Lib.validD (s.data.toList.drop pos)=true∧R=Pt.plain (Pt.nums (s.data.toList.drop pos)))) (fun _ w'=>s.size-w'.iterPos w2.heap.size)
  case atStart=>exact ⟨0,rfl,H0⟩
  case round =>
   obtain ⟨pos,rfl,H1⟩:=hrel
   clear H0
   by_cases hp:pos<s.size
   ·have hnx:∀ ty,(Instr.next (.pointer (some ⟨w2.heap.size,0,none⟩)) true ty).run Tryz.prog (w2.iter s pos)=_:=fun ty=>run_next_any w2 s pos ty hp
    have hwd:=Lib.decode_width_pos s pos hp
    have hr:=Lib.rune_le s pos
    have hd:=Pt.plain_decode (s.data.toList.drop pos) (by intro e;have:=congrArg List.length e;rw[List.length_drop,HZ.out,List.length_nil] at this;omega) H1.out.1
    rw[Lib.decodeL_drop,List.drop_drop,←H1.out.2] at hd
    generalize (Utf8.decode s pos).1=r at *
    generalize (Utf8.decode s pos).2=k at *
    have HD:=hid hd
    clear hd H1
    by_cases h32:r<32
    ·have hR:R=false:=by rw[HD.out.1,if_pos (.inl h32)]
     subst hR
     go_wp2
     go_ret
     exact ⟨grown_alloc HG2.out _,rfl⟩
    ·by_cases h127:r=127
     ·have hR:R=false:=by rw[HD.out.1,if_pos (.inr h127)]
      subst hR
      subst h127
      go_wp2
      go_ret
      exact ⟨grown_alloc HG2.out _,rfl⟩
     ·have HR:Hid (Lib.validD (s.data.toList.drop (pos+k))=true∧R=Pt.plain (Pt.nums (s.data.toList.drop (pos+k)))):=hid ⟨HD.out.2,by have h:=HD.out.1;rw[if_neg (by omega)] at h;exact h⟩
      have z1:¬ (r:Int)<32:=by omega
      have z2:((r:Int)==127)=false:=by rw[beq_eq_false_iff_ne];omega
      clear HD
      go_wp2
      go_roundw
      case rel=>exact ⟨pos+k,rfl,HR⟩
      case measure=>simp;omega
   ·have hnx:∀ ty,(Instr.next (.pointer (some ⟨w2.heap.size,0,none⟩)) true ty).run Tryz.prog (w2.iter s pos)=_:=fun ty=>run_next_end w2 s pos ty hp
    have hR:R=true:=by
     rw[H1.out.2,List.drop_eq_nil_of_le (by rw[HZ.out];omega)]
     rfl
    subst hR
    go_wp2
    go_ret
    exact ⟨grown_alloc HG2.out _,rfl⟩
 ·have hv':Lib.validD s.data.toList=false:=by simpa using hv
  have eP:Pt.plain (strL s)=false:=Pt.plain_invalid _ hv'
  rw[hv'] at hV
  rw[eP]
  go_enter Tryz.func137,Tryz.ntmps137
  go_wp2_with (go_at_call 171;refine hV.mono ?_;rintro e w2 ⟨rfl,hg2⟩;have HG2:=hid hg2;clear hg2)
  go_ret
  exact ⟨HG2.out,rfl⟩
theorem err_long {w:World} {A:Nat→Addr} (h:AllErrs w A):w.cell? ⟨3,0,none⟩=some (errV A 3):=errs_at h 3 (by decide)
theorem err_text {w:World} {A:Nat→Addr} (h:AllErrs w A):w.cell? ⟨7,0,none⟩=some (errV A 8):=errs_at h 8 (by decide)
def faultV (A:Nat→Addr) (k:Nat):Value:=if k=0 then .nilIface else errV A k
theorem fault_any (A:Nat→Addr) (w:World) (hE:AllErrs w A) (hP:TxPlain w) (s:ByteArray) (most:Int) (W:World) (hs:s.size≤1000) (hm:inT most) (hg:w.grownBy W none) :
  Calls Tryz.prog 106 #[.string s,.int .i64 most] W fun e w'=>W.grownBy w' none∧e=.returned (faultV A (Pt.asked (strL s) most)):=by
 have hEW:=hE.grown hg
 have e2:=err_short hEW
 have e3:=err_long hEW
 have hPl:=hP s W hs hg
 have hzl:=strL_len s
 rw[Pt.asked,hzl]
 unfold inT at hm
 by_cases h0:s.size=0
 ·rw[if_pos h0]
  go_enter Tryz.func106,Tryz.ntmps106
  go_wp2
  go_ret
  exact ⟨grown_refl _ _,rfl⟩
 ·rw[if_neg h0]
  have z0:((s.size:Int)==0)=false:=by rw[beq_eq_false_iff_ne];omega
  by_cases h1:most<(s.size:Int)
  ·rw[if_pos h1]
   go_enter Tryz.func106,Tryz.ntmps106
   go_wp2
   go_ret
   exact ⟨grown_refl _ _,rfl⟩
  ·rw[if_neg h1]
   have HE:=hid hEW
   clear hEW hE e2 e3
   cases hp:Pt.plain (strL s) with
   |true =>
    rw[hp] at hPl
    rw[if_pos rfl]
    go_enter Tryz.func106,Tryz.ntmps106
    go_wp2_with (go_at_call 137;refine hPl.mono ?_;rintro e w2 ⟨hg2,rfl⟩;have HG2:=hid hg2;clear hg2)
    go_ret
    exact ⟨HG2.out,rfl⟩
   |false =>
    rw[hp] at hPl
    rw[if_neg (by decide)]
    go_enter Tryz.func106,Tryz.ntmps106
    go_wp2_with (go_at_call 137;refine hPl.mono ?_;rintro e w2 ⟨hg2,rfl⟩;have HG2:=hid hg2;have e8:=err_text (HE.out.grown hg2);clear hg2)
    go_ret
    exact ⟨HG2.out,rfl⟩
theorem asked_ne {l:List Nat} {most:Int} (h:Pt.asked l most≠0):Pt.asked l most=2∨Pt.asked l most=3∨Pt.asked l most=8:=by
 unfold Pt.asked at *
 repeat' split
 all_goals simp_all
theorem xput_any (A:Nat→Addr) (w:World) (hE:AllErrs w A) (hP:TxPlain w):TxPut A w:=by
 intro s most W hs hm hg
 have hF:=fault_any A w hE hP s most W hs hm hg
 by_cases hk:Pt.asked (strL s) most=0
 ·rw[hk] at hF
  simp only[if_pos hk]
  have hF':Calls Tryz.prog 106 #[.string s,.int .i64 most] W fun e w'=>W.grownBy w' none∧e=.returned .nilIface:=hF
  clear hF hk hE hP hg
  go_enter Tryz.func62,Tryz.ntmps62
  go_wp2_with (first
   |(go_at_call 106;refine hF'.mono ?_;rintro e w2 ⟨hg2,rfl⟩;have HG2:=hid hg2;clear hg2)
   |(refine wpList_strBy (by rfl) 9 27 (.tmp 13) (by rfl) Tryz.underlying9 Tryz.underlying27 Tryz.underlying5 s (by rfl) ?_;intro c w3 hg3 hB3;have HG3:=hid (grown_trans HG2.out hg3);have HB3:=hid hB3;clear hg3 hB3))
  go_ret2
  exact ⟨HG3.out,_,_,rfl,HB3.out⟩
 ·simp only[if_neg hk]
  have hn:=asked_ne hk
  generalize Pt.asked (strL s) most=k at *
  have hF':Calls Tryz.prog 106 #[.string s,.int .i64 most] W fun e w'=>W.grownBy w' none∧e=.returned (errV A k):=by
   unfold faultV at hF
   rw[if_neg hk] at hF
   exact hF
  clear hF hk hE hP hg
  go_enter Tryz.func62,Tryz.ntmps62
  go_wp2_with (go_at_call 106;refine hF'.mono ?_;rintro e w2 ⟨hg2,rfl⟩;have HG2:=hid hg2;clear hg2)
  go_ret2
  exact ⟨HG2.out,_,_,rfl⟩
theorem xget_any (A:Nat→Addr) (w:World) (hE:AllErrs w A) (hP:TxPlain w):TxGet A w:=by
 intro v s most W hs hm hg hB
 have hF:=fault_any A w hE hP s most W hs hm hg
 have hc:=fun (W:World) (h:Bytes W v (strL s))=>conv_bytes (P:=Tryz.prog) h 27 5 9 Tryz.underlying27 Tryz.underlying5 Tryz.underlying9
 have hcv:=hc W hB
 rw[strOf_strL] at hcv
 obtain ⟨_,a,sb,so,c,rfl,_⟩:=hB
 clear hc
 by_cases hk:Pt.asked (strL s) most=0
 ·rw[hk] at hF
  simp only[if_pos hk]
  have hF':Calls Tryz.prog 106 #[.string s,.int .i64 most] W fun e w'=>W.grownBy w' none∧e=.returned .nilIface:=hF
  clear hF hk hE hP hg
  go_enter Tryz.func83,Tryz.ntmps83
  go_wp2_with (go_at_call 106;refine hF'.mono ?_;rintro e w2 ⟨hg2,rfl⟩;have HG2:=hid hg2;clear hg2)
  go_ret2
  exact ⟨HG2.out,rfl⟩
 ·simp only[if_neg hk]
  have hn:=asked_ne hk
  have hF':Calls Tryz.prog 106 #[.string s,.int .i64 most] W fun e w'=>W.grownBy w' none∧e=.returned (errV A (Pt.asked (strL s) most)):=by
   unfold faultV at hF
   rw[if_neg hk] at hF
   exact hF
  generalize Pt.asked (strL s) most=k at *
  clear hF hk hE hP hg
  go_enter Tryz.func83,Tryz.ntmps83
  go_wp2_with (go_at_call 106;refine hF'.mono ?_;rintro e w2 ⟨hg2,rfl⟩;have HG2:=hid hg2;clear hg2)
  go_ret2
  exact ⟨HG2.out,rfl⟩
end Go.Proofs.YtjjbkpjjmbfdhaaGreatDoor
