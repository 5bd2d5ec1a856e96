import Derived.Test.YtijkaknggdaajaaGreatDoorZw15
import Derived.Test.YtijkaknggdaajaaGreatDoorZw24
import Derived.Lib.LaidU8T
import Derived.PinnedBridge
set_option linter.unusedVariables false
set_option linter.unusedSimpArgs false
set_option maxRecDepth 100000
set_option maxHeartbeats 2000000
namespace Go.Proofs.YtijkaknggdaajaaGreatDoor
open Go.Proofs.Tryz
open Go.Lib (hid)
open Go.RowKit
theorem iU8:(prog.info? 5).map (fun i=>(i.zero,i.size,i.bytes))=some (some (.int .u8 0),1,1):=by kernel_rfl
theorem zKn (n:Nat) (w:World) (hn:n<=200000000) :
  Calls prog 148 #[.slice none 0 0,.int .i64 n] w fun e w'=>∃ v,e=.returned v/\FrW w w' v []:=by
 rcases Nat.eq_zero_or_pos n with h0|h0
 ·subst h0;exact(Any8.slices_Grow_room Tryz.laysGrow none 0 0 0 w (Nat.le_refl _) (by omega) (by omega) (by omega)).mono (by
   rintro e w' ⟨rfl,rfl⟩;exact⟨_,rfl,zAa _ _,ownsRow_empty _ _ _⟩)
 ·obtain⟨i0,h1,h2,h3,h4⟩:=info_parts iU8;exact(Any8.slices_Grow_grow Tryz.laysGrow i0 (.int .u8 0) h1 h2 (by rw[h3];decide) none 0 0 n [] w (Nat.le_refl _) (by omega) (by rw[h4];omega) (by omega) (by simp) (fun _=>rfl) (fun _ h=>by cases h)).mono (by
   rintro e w' ⟨rfl,rfl⟩;have hge:=grownCap_ge w (0+n) 0 (Tryz.laysGrow_ren.t 25);refine⟨_,rfl,zAc (zAd (zAa _ _) 1) _,by simp[cellsL],.inr ⟨_,_,_,rfl,Nat.le_refl _,alloc_at _ _,Nat.zero_le _,?_,?_,by simp[cellsL]⟩⟩
   ·exact grownCap_le_maxLen w _ _ _ (by unfold maxLen;omega)
   ·simp only[Array.size_append,List.size_toArray,size_zeroCells];simp[Value.cells];rw[Nat.zero_add]at hge;omega)
def lensTo (L:List (List Nat)) (k:Nat):Nat:=(L.take k).flatten.length
theorem zGg (L:List (List Nat)) {k:Nat} (hk:k<L.length):lensTo L (k+1)=lensTo L k+(L.getD k []).length:=by
 rw[lensTo,zCE L hk,List.length_append];rfl
theorem zFx:∀ (L:List (List Nat)),(∀ x∈L,x.length<=70000)->L.flatten.length<=70000*L.length
 |[],_=>by simp
 |x :: r,h=>by
  have h1:=zFx r (fun y hy=>h y (List.mem_cons_of_mem _ hy));have h2:=h x (List.mem_cons_self ..);rw[List.flatten_cons,List.length_append,List.length_cons];omega
theorem zJb (L:List (List Nat)) (h:∀ x∈L,x.length<=70000) (h20:L.length<=2000) (k:Nat):lensTo L k<=140000000:=by
 have:=zFx (L.take k) (fun x hx=>h x (List.mem_of_mem_take hx));rw[List.length_take]at this;unfold lensTo;omega
theorem zD5 (a:Option Addr) (n c:Nat) (ys:List Value) (L:List (List Nat)) (w:World) (hV:Vals w (.slice a n c) ys) (hE:Each w ys L) (h20:n<=2000) (h100:∀ x∈L,x.length<=70000) :
  Calls prog 111 #[.slice a n c] w fun e w'=>∃ u,e=.returned u/\w.grownBy w' none/\Bytes w' u L.flatten/\Whole0 u:=by
 have hln:L.length=n:=by rw[<-hE.len];exact hV.cap.1.symm
 have HLn:=hid hln;have HEl:=hid hE.lt;obtain⟨a1,sb,so,c1,he,hc,ha,hcell⟩:=hV;simp only[Value.slice.injEq]at he;obtain⟨rfl,hny,rfl⟩:=he;rw[<-hny]at hc ha;have HIn:Hid (∀ W,w.grownBy W none->∀ j,j<n->a=some ⟨sb,so,none⟩/\∃ y ya yc,y=.slice ya (L.getD j []).length yc/\W.cell? ⟨sb,so+j,none⟩=some y/\Bytes W y (L.getD j [])/\Whole0 y):=hid (fun W hW j hj=>by
  obtain⟨y,h1,h2,h3⟩:=hE.at_ j (by omega);have h2':=h2;obtain⟨_,ya,_,_,yc,rfl,_⟩:=h2';exact⟨(ha (by omega)).1,_,ya,yc,rfl,by rw[World.cell?_of_block (hW.block sb (ha (by omega)).2 (by simp))];exact hcell j _ h1,h2.grown hW,h3⟩)
 have HLe:Hid (∀ k,lensTo L k<=140000000):=hid (zJb L h100 (by omega));have HNx:Hid (∀ k,k<n->lensTo L (k+1)=lensTo L k+(L.getD k []).length):=hid (fun k hk=>zGg L (by omega));have HTk:Hid (∀ i,i<n->(L.take (i+1)).flatten=(L.take i).flatten++L.getD i []):=hid (fun i hi=>zCE _ (by omega));have HTe:Hid ((L.take n).flatten=L.flatten):=hid (by rw[List.take_of_length_le (by omega)]);have HGr:Hid (∀ k W,Calls prog 148 #[.slice none 0 0,.int .i64 (lensTo L k:Nat)] W fun e w'=>∃ v,e=.returned v/\FrW W w' v []):=hid (fun k W=>zKn _ W (by have:=HLe.out k;omega));clear hE ha hcell hny hln h100;go_enter func111,ntmps111
 go_wp2
 go_loopw [3,11] (fun t i wr=>∃ k:Nat,k<=n/\i=.int .i64 (k:Int)/\t=.int .i64 (lensTo L k:Nat)/\wr=w) (fun _ i _=>n-(intOf i).toNat)
 case atStart=>exact⟨0,Nat.zero_le _,rfl,rfl,rfl⟩
 case round =>
  obtain⟨k,hk,rfl,rfl,rfl⟩:=hrel;by_cases hkn:k<n
  ·obtain⟨rfl,y,ya,yc,rfl,hy,_,_⟩:=HIn.out wr (zAa _ _) k hkn;have h1:=HNx.out k hkn;have h2:=HLe.out k;have h3:=HLe.out (k+1);generalize (L.getD k []).length=yl at *;have e1:IntKind.i64.wrap ((lensTo L k:Nat)+(yl:Int))=(lensTo L (k+1):Nat):=by rw[IntKind.wrap_i64];omega
   have HX:=hid h1;generalize lensTo L k=s at *;have z0:¬((s:Int)+yl<0):=by omega
   clear h1;go_wp2
   go_roundw
   case rel=>exact⟨k+1,by omega,by go_num,by rw[HX.out],trivial⟩
   case measure=>simp[intOf];omega
  ·obtain rfl:k=n:=by omega
   obtain⟨wo,rfl⟩:∃ wo:World,wo=wr:=⟨_,rfl⟩
   go_wp2_with (go_at_call 148;refine(HGr.out k wo).mono ?_;rintro e w3 ⟨v3,rfl,hf3⟩;have F3:=hid hf3;clear hf3)
   go_loopw [6,27] (fun v i wq=>∃ m:Nat,m<=k/\i=.int .i64 (m:Int)/\FrW wo wq v (L.take m).flatten) (fun _ i _=>k-(intOf i).toNat)
   case atStart=>exact⟨0,Nat.zero_le _,rfl,F3.out⟩
   case round =>
    obtain⟨m,hm,rfl,hF⟩:=hrel;have HF:=hid hF;by_cases hmk:m<k
    ·obtain⟨rfl,y,ya,yc,hye,hy,hyb,hy0⟩:=HIn.out _ hF.grown m hmk;have HYb:=hid hyb;have HY0:=hid hy0;have HTk2:=hid (HTk.out m hmk);have HP2:=hid (HLe.out (m+1));clear hF hyb hy0 hye;go_wp2_with (at_builtin;refine zAP (by rfl) (.tmp 31) (.tmp 32) 33 (by rfl) wo.heap.size 5 (.int .u8 0) 1 underlying33 (by kernel_rfl) rfl (by decide) _ _ _ (by rfl) HF.out.own _ _ (by rfl) HYb.out HY0.out (by have h1:=HP2.out;rw[lensTo,HTk2.out,List.length_append]at h1;omega) HF.out.le ?_;intro v4 w4 ho4 hg4;have F4:=hid (HF.out.step (l':=(L.take (m+1)).flatten) ho4 hg4 (by rw[HTk2.out];exact(zAn _ _).symm));clear ho4 hg4)
     go_roundw
     case rel=>exact⟨m+1,by omega,by go_num,F4.out⟩
     case measure=>simp[intOf];omega
    ·obtain rfl:m=k:=by omega
     rw[HTe.out]at HF;clear hF;go_wp2
     go_ret
     exact⟨_,rfl,HF.out.grown,Bytes.own HF.out.own HEl.out,Whole0.own HF.out.own⟩
open Go.RowKit Go.Sort
def elV (xs:List Value) (i:Nat):Value:=if(xs.getD i (.slice none 0 0)).oneCell'=true then xs.getD i (.slice none 0 0)else .slice none 0 0
theorem zLS (xs:List Value):∀ i,(elV xs i).oneCell'=true:=by
 intro i;unfold elV;split
 ·assumption
 ·rfl
def keyOf (L:List (List Nat)) (i:Nat):List Nat:=L.getD i []
theorem zKY {xs:List Value} (h:∀ u∈xs,u.oneCell'=true) {i:Nat} (hi:i<xs.length):xs[i]?=some (elV xs i):=by
 have e:xs.getD i (.slice none 0 0)=xs[i]:=by rw[List.getD_eq_getElem?_getD,List.getElem?_eq_getElem hi];rfl
 rw[elV,e,if_pos (h _ (List.getElem_mem hi)),List.getElem?_eq_getElem hi]
theorem zB0 {w:World} {xs:List Value} {L:List (List Nat)} (hE:Each w xs L) (i:Nat):Bytes w (elV xs i) (keyOf L i)/\Whole0 (elV xs i):=by
 by_cases hi:i<L.length
 ·obtain⟨v,h1,h2,h3⟩:=hE.at_ i hi;have h4:=zKY hE.one (i:=i) (by rw[hE.len];exact hi);rw[h1]at h4;obtain rfl:=Option.some.inj h4;exact⟨h2,h3⟩
 ·have e1:keyOf L i=[]:=by rw[keyOf,List.getD_eq_getElem?_getD,List.getElem?_eq_none (by omega)];rfl
  have e2:elV xs i=.slice none 0 0:=by
   rw[elV,List.getD_eq_getElem?_getD,List.getElem?_eq_none (by rw[hE.len];omega)];rfl
  rw[e1,e2];exact⟨⟨by simp,none,0,0,0,rfl,Nat.le_refl _,fun h=>absurd h (by simp),fun j hj=>absurd hj (by simp)⟩,fun n c e=>by cases e;exact⟨rfl,rfl⟩⟩
def cfOf (L:List (List Nat)) (i j:Nat):Int:=Bc.cmp (keyOf L i) (keyOf L j)
theorem zKj {L:List (List Nat)} (h8:∀ i,∀ x∈keyOf L i,x<256) (i j:Nat):Go.Proofs.ltOf (cfOf L) i j=Cal.lex (keyOf L i) (keyOf L j):=Bc.cmp_lex (h8 i) (h8 j)
theorem zL7 {L:List (List Nat)} (h8:∀ i,∀ x∈keyOf L i,x<256):SWO (Go.Proofs.ltOf (cfOf L)) where
 irrefl x:=by rw[zKj h8];exact Pt.lex_irr _
 trans x y z h1 h2:=by rw[zKj h8]at *;exact Pt.lex_trans _ _ _ h1 h2
 ntrans x y z h1 h2:=by
  rw[zKj h8]at *;exact Pt.le_trans (a:=keyOf L z) (b:=keyOf L y) (c:=keyOf L x) h2 h1
theorem zIl {L:List (List Nat)} (h8:∀ i,∀ x∈keyOf L i,x<256) {d:Array Nat} (hp:PermIn 0 (Array.range L.length).size (Array.range L.length) d) (hs:SortedIn (Go.Proofs.ltOf (cfOf L)) 0 (Array.range L.length).size d) :
  d.size=L.length/\Pt.sort L=d.toList.map (keyOf L):=by
 rw[Array.size_range]at hp hs;obtain⟨h1,_,h3⟩:=hp;rw[Array.size_range]at h1;refine⟨h1,?_⟩;have e1:d.extract 0 L.length=d:=by rw[<-h1];simp
 have e2:(Array.range L.length).extract 0 L.length=Array.range L.length:=by
  have:(Array.range L.length).size=L.length:=Array.size_range
  conv=>lhs;rw[<-this]
  simp
 rw[e1,e2]at h3;have hL:(Array.range L.length).toList.map (keyOf L)=L:=by
  apply List.ext_getElem?;intro i;rw[Array.toList_range,List.getElem?_map];by_cases hi:i<L.length
  ·rw[List.getElem?_range hi,List.getElem?_eq_getElem hi];simp[keyOf,hi]
  ·rw[List.getElem?_eq_none (by simp;omega),List.getElem?_eq_none (by omega)];rfl
 refine Pt.sort_is ?_ (by have:=h3.map (keyOf L);rw[hL]at this;exact this);unfold Pt.Sorted;rw[List.pairwise_map,List.pairwise_iff_getElem];intro i j hi hj hij;rw[Array.length_toList]at hi hj;have:=hs i j (Nat.zero_le _) hij (by omega);rw[zKj h8,getElem!_pos d i hi,getElem!_pos d j hj]at this;simpa [Pt.le]using this
theorem zDA {α:Type} [Inhabited α] {W w:World} (hg:W.grownBy w none) {blk:Nat} (hb:W.heap.size<=blk) (enc:α->Value) (off m:Nat) (d:Array α) (os:Array Obj):W.grownBy (Go.Proofs.sortWorld enc w blk off m d os) none:=by
 have e:∀ k,k<w.heap.size->k≠blk->(Go.Proofs.sortWorld enc w blk off m d os).heap[k]?=w.heap[k]?:=by
  intro k hk hne
  show((putRow enc (Sort.ahead w m) blk off d).heap++os)[k]?=_
  rw[Array.getElem?_append_left (by rw[size_putRow];exact hk)]
  show(w.heap.modify blk _)[k]?=_
  rw[Array.getElem?_modify,if_neg (Ne.symm hne)]
 refine⟨hg.os,hg.tape,hg.output,?_,fun k hk _=>?_⟩
 ·show W.heap.size<=((putRow enc (Sort.ahead w m) blk off d).heap++os).size
  rw[Array.size_append,size_putRow];exact Nat.le_trans hg.size (Nat.le_add_right _ _)
 ·rw[e k (Nat.lt_of_lt_of_le hk hg.size) (by omega)];exact hg.block k hk (by simp)
theorem zG2 {w:World} {f:Nat->Value} {g:Nat->List Nat} (h:∀ i,Bytes w (f i) (g i)/\Whole0 (f i)):∀ l:List Nat,Each w (l.map f) (l.map g)
 |[]=>trivial
 |i :: l=>⟨h i,zG2 h l⟩
theorem zJY {W w:World} {v:Value} {ys:List Value} {L:List (List Nat)} (hF:FrV W w v ys) (hE:Each W ys L) (h20:L.length<=2000) :
  Calls prog 146 #[v,cmpV] w fun e w'=>e=.returned (.tuple #[])/\W.grownBy w' none/\∃ xs,Vals w' v xs/\Each w' xs (Pt.sort L):=by
 have hl:=hE.len;have h8:∀ i,∀ x∈keyOf L i,x<256:=fun i x hx=>((zB0 hE i).1).lt x hx
 obtain⟨hn,hown⟩:=hF.own;rcases hown with⟨hv,h0⟩|⟨g,cap,cur,hv,hb,hg,hnc,hcm,hcs,htk⟩
 ·subst hv;have hy:ys=[]:=List.eq_nil_of_length_eq_zero h0;subst hy;have hL:L=[]:=List.eq_nil_of_length_eq_zero (by rw[<-hl];rfl);subst hL;exact(AnyF.slices_SortFunc_none (P:=prog) (ρ:=Tryz.laysSort_ren) { Tryz.laysSort with } none 0 cmpV w).mono (by
   rintro e w' ⟨rfl,rfl⟩;exact⟨rfl,hF.grown,[],Vals.nil _,trivial⟩)
 ·subst hv;rw[Nat.mul_one]at htk hcs;have hcell:∀ j,j<ys.length->w.cell? ⟨g,j,none⟩=some (elV ys j):=fun j hj=>by
   have:cur[j]?=some (elV ys j):=by
    rw[<-zKY hE.one hj,<-htk,List.getElem?_take,if_pos hj];simp
   exact cell_blk hg j this
  have hH:Holds (elV ys) w g 0 (Array.range L.length):=fun j hj=>by
   rw[Array.size_range]at hj;rw[getElem!_pos _ j (by rw[Array.size_range];exact hj),Array.getElem_range,Nat.zero_add];exact⟨hcell j (by omega),zAh hg _⟩
  have hgl:g<w.heap.size:=zAi hg;have hcmp:CmpLays1 prog 147 #[] (elV ys) (cfOf L) g 0 (Array.range L.length).size w:=CmpReads.lays (fun m os dk _ x y=>by
   have hgr:=zDA hF.grown hb (elV ys) 0 m dk os;have hx:=zB0 hE x;have hy:=zB0 hE y;exact(zFu _ _ _ _ _ (hx.1.grown hgr) (hy.1.grown hgr) hx.2 hy.2).mono (by
    rintro e w' ⟨rfl,rfl⟩;exact⟨rfl,0,rfl⟩))
  have hc:=Any.slices_SortFunc Tryz.laysSort (elV ys) (zLS ys) (cfOf L) (zL7 h8) 147 #[] g 0 cap (Array.range L.length) w (enters_of func147 (by kernel_rfl) rfl) hcmp hH hgl (by rw[Array.size_range];omega);rw[Array.size_range,<-hl]at hc;refine hc.mono ?_;rintro e w' ⟨rfl,d,m,os,hp,hs,rfl⟩;rw[hl]at hp hs;have hso:=zIl h8 (d:=d) (by rw[Array.size_range];exact hp) (by rw[Array.size_range];exact hs);have hgr:=zDA hF.grown hb (elV ys) 0 m d os;have hH2:Holds (elV ys) (sortWorld (elV ys) w g 0 m d os) g 0 d:=holds_sortWorld (elV ys) w g 0 m (Array.range L.length) d os hgl hH (by rw[hso.1,Array.size_range]);have hdl:d.toList.length=ys.length:=by rw[Array.length_toList,hso.1,hl]
  refine⟨rfl,hgr,d.toList.map (elV ys),?_,?_⟩
  ·refine⟨some ⟨g,0,none⟩,g,0,cap,by rw[List.length_map,hdl],by rw[List.length_map,hdl];exact hnc,fun _=>⟨rfl,?_⟩,fun j u hj=>?_⟩
   ·show g<((putRow (elV ys) (Sort.ahead w m) g 0 d).heap++os).size
    rw[Array.size_append,size_putRow];exact Nat.lt_of_lt_of_le hgl (Nat.le_add_right _ _)
   ·rw[List.getElem?_map]at hj;obtain⟨i,hi,rfl⟩:=Option.map_eq_some_iff.1 hj;have hjl:j<d.size:=by have:=(List.getElem?_eq_some_iff.1 hi).1;rwa [Array.length_toList]at this
    have:=(hH2 j hjl).1;rw[getElem!_pos d j hjl]at this;rw[this]
    congr 2
    have h2:=(List.getElem?_eq_some_iff.1 hi).2;rw[<-h2];simp
  ·rw[hso.2];exact zG2 (fun i=>⟨(zB0 hE i).1.grown hgr,(zB0 hE i).2⟩) _
theorem iLL:((prog.info? 33).map (fun i=>(i.zero,i.size,i.bytes)))=some (some (.slice none 0 0),1,24):=by kernel_rfl
theorem zHV (a:Option Addr) (n c:Nat) (ys:List Value) (L:List (List Nat)) (w:World) (hV:Vals w (.slice a n c) ys) (hE:Each w ys L) (h0:Whole0 (.slice a n c)) (h20:n<=2000) :
  Calls prog 145 #[.slice a n c] w fun e w'=>∃ v,e=.returned v/\FrV w w' v ys:=by
 have heq:∀ (w:World) (a:Option Addr),(binOp .eql 81 (.slice a n c) (.slice none 0 0)).run prog w=.ok (.bool a.isNone) w:=fun w a=>Lib.run_eql_slice_nil w 81 33 a n c 0 0 underlying81
 have hyl:ys.length=n:=hV.cap.1.symm
 match a,hV,h0 with
 |none,hV,h0 =>
  obtain⟨h1,h2⟩:=h0 _ _ rfl;subst h1;subst h2;have hy:ys=[]:=List.eq_nil_of_length_eq_zero hyl;subst hy;clear hV hE h0;go_enter func145,ntmps145
  go_wp2
  go_ret
  exact⟨_,rfl,zAa _ _,ownsRow_empty _ _ _⟩
 |some ad,hV,h0 =>
  have HV:=hid hV;have HE:=hid hE;have F1:=hid (FrV.first w);have HYl:=hid hyl;have HI:=hid iLL;clear hV hE h0 hyl;go_enter func145,ntmps145
  go_wp2_with (at_builtin;refine zAO (by rfl) (.tmp 5) (.tmp 6) 81 (by rfl) w.heap.size 33 (.slice none 0 0) 24 underlying81 HI.out rfl (by decide) _ _ _ (by rfl) F1.out.own _ ys (by rfl) (HV.out.grown F1.out.grown) (Whole0.some _ _ _) HE.out.one (by have:=HYl.out;simp;omega) (by rw[zAe];omega) ?_;intro v2 w2 ho2 hg2 _;have F2:=hid (F1.out.step ho2 hg2);clear ho2 hg2)
  go_ret
  exact⟨_,rfl,F2.out⟩
theorem zKz (v:Value) (ys:List Value) (L:List (List Nat)) (w:World) (hV:Vals w v ys) (hE:Each w ys L) (h20:L.length<=2000) (h100:∀ x∈L,x.length<=70000) :
  Calls prog 111 #[v] w fun e w'=>∃ u,e=.returned u/\w.grownBy w' none/\Bytes w' u L.flatten/\Whole0 u:=by
 have hV':=hV;obtain⟨a,sb,so,c,rfl,_⟩:=hV';exact zD5 a _ c ys L w hV hE (by rw[hE.len];exact h20) h100
theorem zJZ (a:Option Addr) (n c:Nat) (ys:List Value) (L:List (List Nat)) (W:World) (h20:n<=2000) (h100:∀ x∈L,x.length<=70000) (hV:Vals W (.slice a n c) ys) (hE:Each W ys L) (h0:Whole0 (.slice a n c)):Calls prog 110 #[.slice a n c] W fun e w'=>∃ u,e=.returned u/\W.grownBy w' none/\Bytes w' u (Pt.sort L).flatten/\Whole0 u:=by
 have hln:L.length=n:=by rw[<-hE.len];exact hV.cap.1.symm
 have hC:=zHV a n c ys L W hV hE h0 h20;have HS:Hid (∀ w v,FrV W w v ys->Calls prog 146 #[v,cmpV] w fun e w'=>e=.returned (.tuple #[])/\W.grownBy w' none/\∃ xs,Vals w' v xs/\Each w' xs (Pt.sort L)):=hid (fun w v hF=>zJY hF hE (by omega));have HK:Hid (∀ w v xs,Vals w v xs->Each w xs (Pt.sort L)->Calls prog 111 #[v] w fun e w'=>∃ u,e=.returned u/\w.grownBy w' none/\Bytes w' u (Pt.sort L).flatten/\Whole0 u):=hid (fun w v xs h1 h2=>zKz v xs _ w h1 h2 (by rw[Pt.sort_len];omega) (fun x hx=>h100 x (Pt.sort_mem.1 hx)));have HC:=hid hC;clear hV hE h0 hln hC h100;go_enter func110,ntmps110
 go_wp2_with (first
  |(go_at_call 145;refine HC.out.mono ?_;rintro e w2 ⟨v,rfl,hf2⟩;have F2:=hid hf2;clear hf2)
  |(go_at_call 146;refine(HS.out _ _ F2.out).mono ?_;rintro e w3 ⟨rfl,hg3,xs,hv3,he3⟩;have HG3:=hid hg3;have HV3:=hid hv3;have HE3:=hid he3;clear hg3 hv3 he3)
  |(go_at_call 111;refine(HK.out _ _ _ HV3.out HE3.out).mono ?_;rintro e w4 ⟨u,rfl,hg4,hb4⟩;have HW4:=hid hb4.2;replace hb4:=hb4.1;have HG4:=hid hg4;have HB4:=hid hb4;clear hg4 hb4))
 go_ret
 exact⟨_,rfl,zAb HG3.out HG4.out,HB4.out,HW4.out⟩
open Go.ChangeShapes Go.WideShapes Go.ChangeAt Go.RowKit
theorem zED {H:Type} {enc:TypeId×Value->H} {P:Program} {w:World} {base:Nat} {sp:Nat->Bool} {held:Bool} {fuel:Nat} {t e:TypeId} {n:Nat} {cs:List Value} {zs:List ByteArray} {p:List MemPlace}
  (ht:P.underlying t=some (.array n e)) (he:P.underlying e=some .string) (hce:P.cellsOf e=1) (hct:P.cellsOf t=n)
  (h:DataW.trod enc P w base sp held fuel t cs=some (.agg (zs.map fun z=>.lit (.string z.data.toList)),p)):cs=zs.map fun z=>Value.string z:=by
 cases fuel with
 |zero=>simp[DataW.trod]at h
 |succ fuel =>
  simp only[DataW.trod,ht,hce,hct,Nat.mul_one]at h;split at h
  ·rename_i hl
   obtain⟨xs,hm,hx⟩:=Option.map_eq_some_iff.1 h;have hxs:xs.map (·.1)=zs.map fun z=>(DataW.lit (.string z.data.toList):DataW H):=by
    have:=congrArg Prod.fst hx;simpa using this
   have hxl:xs.length=n:=by simpa using Lib.mapM_length hm
   have hzl:zs.length=n:=by
    have:=congrArg List.length hxs;simp at this;omega
   apply List.ext_getElem?;intro i;by_cases hi:i<n
   ·obtain⟨b,hb,hf⟩:=Lib.mapM_at hm i i (by simp[hi]);obtain⟨z,hc,rfl,_⟩:=DataW.trod_string he hf;have h1:cs[i]?=some (.string z):=by
     have:=congrArg (·[0]?) hc;simpa [List.getElem?_take,List.getElem?_drop]using this
    have h2:(xs.map (·.1))[i]?=some (DataW.lit (.string z.data.toList):DataW H):=by simp[hb]
    rw[hxs]at h2;simp only[List.getElem?_map,Option.map_eq_some_iff,DataW.lit.injEq,Lit.string.injEq]at h2;obtain⟨z',hz',h3⟩:=h2;have h4:z'=z:=by
     obtain⟨a⟩:=z;obtain⟨b⟩:=z';exact congrArg ByteArray.mk (Array.toList_inj.1 h3)
    subst h4;simp[h1,hz']
   ·rw[List.getElem?_eq_none (by omega),List.getElem?_eq_none (by simp;omega)]
  ·cases h
theorem gWords:prog.globalNamed "bulla/names.words"=some 1:=by kernel_rfl
theorem tWords:(prog.globals[1]?).map (·.type)=some 86:=by kernel_rfl
theorem zMz:prog.cellsOf 86=6:=by kernel_rfl
theorem zM0:prog.cellsOf 9=1:=by kernel_rfl
theorem zMy:(Rows.laid_bulla_names_words:DataW Unit)=.agg (([Na.word 0,Na.word 1,Na.word 2,Na.word 3,Na.word 4,Na.word 5]).map fun z=>.lit (.string z.data.toList)):=by kernel_rfl
theorem zFh {P:Program} {W:World} {n:String} {d:DataW Unit}:∀ {L:List (String×DataW Unit)} {ps:List MemPlace},DataW.LaidVars P W L ps->(n,d)∈L ->
  ∃ g t cs fuel p,P.globalNamed n=some g/\(P.globals[g]?).map (·.type)=some t/\W.var? P n=some cs/\DataW.trod (fun _=>()) P W 0 (fun _=>true) false fuel t cs.toList=some (d,p)
 |[],_,_,hm=>by cases hm
 |(n',d') :: r,ps,h,hm=>by
  obtain⟨g,t,cs,fuel,p,q,h1,h2,h3,h4,h5,_⟩:=h;rcases List.mem_cons.1 hm with e|hm
  ·cases e
   exact⟨g,t,cs,fuel,p,h1,h2,h3,h4⟩
  ·exact zFh h5 hm
theorem zJS {W:World} {L:List (String×DataW Unit)} (h:laidMet prog L W) (hm:("bulla/names.words",(Rows.laid_bulla_names_words:DataW Unit))∈L):Words W:=by
 obtain⟨ps,hV,_⟩:=h;obtain⟨g,t,cs,fuel,p,e1,e2,e3,e4⟩:=zFh hV hm;obtain rfl:=Option.some.inj (gWords.symm.trans e1);obtain rfl:=Option.some.inj (tWords.symm.trans e2);rw[zMy]at e4;have hc:=zED underlying86 underlying9 zM0 zMz e4;intro k hk;have:=World.var?_cell gWords e3 k;rw[this];rw[<-Array.getElem?_toList,hc]
 match k,hk with
 |0,_=>rfl
 |1,_=>rfl
 |2,_=>rfl
 |3,_=>rfl
 |4,_=>rfl
 |5,_=>rfl
def zL3 (w:World) (sb so:Nat) (xs:List Na.Sb):Prop:=∀ i,i<xs.length->w.cell? ⟨sb,so+i*3,none⟩=some (.int .i64 (xs.getD i Na.none9).k)/\w.cell? ⟨sb,so+i*3+1,none⟩=some (.string (xs.getD i Na.none9).sp)/\w.cell? ⟨sb,so+i*3+2,none⟩=some (.string (xs.getD i Na.none9).nm)
theorem cSb:prog.cellsOf 23=3:=by kernel_rfl
theorem cSbI:prog.cellsOf 3=1:=by kernel_rfl
theorem zL9 {H:Type} {enc:TypeId×Value->H} {W:World} {base:Nat} {sp:Nat->Bool} {held:Bool} {fuel:Nat} {cs:List Value} {y:DataW H×List MemPlace} (hf:DataW.trod enc prog W base sp held fuel 50 cs=some y) :
  ∃ (a:Option Addr) (sb so n c:Nat) (xs:List Na.Sb),cs=[.slice a n c]/\xs.length=n/\(0<n->a=some ⟨sb,so,none⟩/\sb<W.heap.size)/\zL3 W sb so xs/\n<=maxLen/\∀ x∈xs,i64 x.k:=by
 rcases DataW.trod_slice underlying50 hf with⟨rfl,_⟩|⟨a,len,cap,elems,rest,m,_,rfl,_,_,hl,hm,hel,hall,_,_⟩
 ·exact⟨none,0,0,0,0,[],rfl,rfl,fun h=>absurd h (Nat.lt_irrefl _),fun i hi=>absurd hi (Nat.not_lt_zero _),by unfold maxLen;simp,by simp⟩
 ·have each:∀ i,i<len->∃ (x:Na.Sb),W.cell? (a.add (i*3))=some (.int .i64 x.k)/\W.cell? ((a.add (i*3)).add 1)=some (.string x.sp)/\W.cell? ((a.add (i*3)).add 2)=some (.string x.nm)/\i64 x.k:=fun i hi=>by
   have h1:=hall i hi;rw[List.getElem?_eq_getElem (by omega),cSb,Option.bind_eq_some_iff]at h1;obtain⟨cs',hc',hy'⟩:=h1;obtain⟨xs,k,_,_,_,hlen,hfd⟩:=DataW.trod_struct underlying23 hy';obtain⟨_,hlen2,hcs⟩:=World.cells?_some hc'
   match cs',hlen2 with
   |[c0,c1,c2],_ =>
    obtain⟨y0,y1,y2,g0,g1,g2⟩:∃ y0 y1 y2,DataW.trod enc prog W base sp held k 3 [c0]=some y0/\DataW.trod enc prog W base sp held k 9 [c1]=some y1/\DataW.trod enc prog W base sp held k 9 [c2]=some y2:=by
     match xs,hlen with
     |[y0,y1,y2],_ =>
      have g0:=hfd 0 _ rfl;have g1:=hfd 1 _ rfl;have g2:=hfd 2 _ rfl;exact⟨y0,y1,y2,by simpa [cStr,cSbI]using g0,by simpa [cStr,cSbI]using g1,by simpa [cStr,cSbI]using g2⟩
    obtain⟨n0,e0,_,b0⟩:=DataW.trod_int underlying3 g0;obtain⟨S1,e1,_⟩:=DataW.trod_string underlying9 g1;obtain⟨S2,e2,_⟩:=DataW.trod_string underlying9 g2;obtain rfl:=(List.cons.inj e0).1;obtain rfl:=(List.cons.inj e1).1;obtain rfl:=(List.cons.inj e2).1;have q0:=hcs 0 (by omega);have q1:=hcs 1 (by omega);have q2:=hcs 2 (by omega);have ha0:(a.add (i*3)).add 0=a.add (i*3):=by unfold Addr.add;split <;> simp_all
    rw[ha0]at q0;have hb:i64 n0:=by
     simp only[Lit.wf,IntKind.has,Bool.and_eq_true,decide_eq_true_eq]at b0;simp[IntKind.min,IntKind.max,IntKind.signed,IntKind.bits]at b0;exact b0
    exact⟨⟨n0,S1,S2⟩,by simpa using q0,by simpa using q1,by simpa using q2,hb⟩
  rcases Nat.eq_zero_or_pos len with h0|h0
  ·subst h0;exact⟨some a,0,0,0,cap,[],rfl,rfl,fun h=>absurd h (Nat.lt_irrefl _),fun i hi=>absurd hi (Nat.not_lt_zero _),Nat.zero_le _,by simp⟩
  ·obtain⟨b,off,spot⟩:=a;obtain⟨x0,hc0,_⟩:=each 0 h0;have hspot:spot=none:=by simpa [Addr.add]using World.cell?_spot hc0
   subst hspot;have hg:∀ i:Nat,∃ p:Na.Sb,i<len->W.cell? ⟨b,off+i*3,none⟩=some (.int .i64 p.k)/\W.cell? ⟨b,off+i*3+1,none⟩=some (.string p.sp)/\W.cell? ⟨b,off+i*3+2,none⟩=some (.string p.nm)/\i64 p.k:=fun i=>by
    by_cases hi:i<len
    ·obtain⟨x,h1,h2,h3,h4⟩:=each i hi;simp only[addr_addO]at h1 h2 h3;exact⟨x,fun _=>⟨h1,h2,h3,h4⟩⟩
    ·exact⟨Na.none9,fun h=>absurd h hi⟩
   have e:∀ i,i<len->((List.range len).map fun i=>Classical.choose (hg i)).getD i Na.none9=Classical.choose (hg i):=fun i hi'=>by simp[List.getD_eq_getElem?_getD,hi']
   refine⟨some ⟨b,off,none⟩,b,off,len,cap,(List.range len).map fun i=>Classical.choose (hg i),rfl,by simp,fun _=>⟨rfl,?_⟩,fun i hi=>?_,by omega,fun x hx=>?_⟩
   ·have:=zJB hc0;simpa [Addr.add]using this
   ·have hi':i<len:=by simpa using hi
    rw[e i hi'];obtain⟨k1,k2,k3,_⟩:=Classical.choose_spec (hg i) hi';exact⟨k1,k2,k3⟩
   ·obtain⟨i,hi,rfl⟩:=List.mem_map.1 hx;exact(Classical.choose_spec (hg i) (List.mem_range.1 hi)).2.2.2
def U8 (w:World):Prop:=Lib.Utf8Tabs 30 31 w
theorem U8.grown {w w':World} (h:U8 w) (hg:w.grownBy w' none):U8 w':=by
 have key:∀ (a:Addr) (v:Value),w.cell? a=some v->w'.cell? a=some v:=fun a v hv =>
  (World.cell?_of_block (hg.block _ (World.block_lt_of_cell? w _ hv) (by simp))).trans hv
 exact⟨fun c hc=>key _ _ (h.1 c hc),fun i hi=>⟨key _ _ (h.2 i hi).1,key _ _ (h.2 i hi).2⟩⟩
theorem zH8 (s:ByteArray) (w:World) (hs:s.size<=2000) (hT:U8 w) :
  Calls prog 183 #[.string s] w fun e w'=>e=.returned (.bool (Lib.validD s.data.toList))/\w.grownBy w' none :=
 (Any.utf8_ValidString Tryz.lays196 s w (by omega) hT).mono fun e w' ⟨h1,h2⟩=>⟨h1,⟨h2.os,h2.tape,h2.output,h2.size,fun k hk _=>h2.block k hk⟩⟩
theorem zE9 (w:World) (hT:U8 w):zEG w:=by
 intro s W hs hg;have hV:=zH8 s W hs (hT.grown hg);have hz:s.data.toList.length=s.size:=by rw[Array.length_toList];rfl
 by_cases hv:Lib.validD s.data.toList=true
 ·rw[hv]at hV;have eP:Pt.plain (strL s)=Pt.plain (Pt.nums (s.data.toList.drop 0)):=by rw[List.drop_zero];rfl
  rw[eP];have hv0:Lib.validD (s.data.toList.drop 0)=true:=by rw[List.drop_zero];exact hv
  obtain⟨R,hR⟩:∃ R,R=Pt.plain (Pt.nums (s.data.toList.drop 0)):=⟨_,rfl⟩
  rw[<-hR];have H0:Hid (Lib.validD (s.data.toList.drop 0)=true/\R=Pt.plain (Pt.nums (s.data.toList.drop 0))):=hid ⟨hv0,hR⟩;have HZ:=hid hz;clear hR hv0 eP hv hz hT;go_enter func164,ntmps164
  go_wp2_with (go_at_call 183;refine hV.mono ?_;rintro e w2 ⟨rfl,hg2⟩;have HG2:=hid hg2;clear hg2)
  go_loopw [4] (fun _ w'=>∃ pos,w'=w2.iter s pos/\Hid (Lib.validD (s.data.toList.drop pos)=true/\R=Pt.plain (Pt.nums (s.data.toList.drop pos)))) (fun _ w'=>s.size-w'.iterPos w2.heap.size)
  case atStart=>exact⟨0,rfl,H0⟩
  case round =>
   obtain⟨pos,rfl,H1⟩:=hrel;clear H0;by_cases hp:pos<s.size
   ·have hnx:∀ ty,(Instr.next (.pointer (some ⟨w2.heap.size,0,none⟩)) true ty).run prog (w2.iter s pos)=_:=fun ty=>run_next_any w2 s pos ty hp
    have hwd:=Lib.decode_width_pos s pos hp;have hr:=Lib.rune_le s pos;have hd:=Pt.plain_decode (s.data.toList.drop pos) (by intro e;have:=congrArg List.length e;rw[List.length_drop,HZ.out,List.length_nil]at this;omega) H1.out.1;rw[Lib.decodeL_drop,List.drop_drop,<-H1.out.2]at hd;generalize (Utf8.decode s pos).1=r at *;generalize (Utf8.decode s pos).2=k at *;have HD:=hid hd;clear hd H1;by_cases h32:r<32
    ·have hR:R=false:=by rw[HD.out.1,if_pos (.inl h32)]
     subst hR;go_wp2
     go_ret
     exact⟨zAc HG2.out _,rfl⟩
    ·by_cases h127:r=127
     ·have hR:R=false:=by rw[HD.out.1,if_pos (.inr h127)]
      subst hR;subst h127;go_wp2
      go_ret
      exact⟨zAc HG2.out _,rfl⟩
     ·have HR:Hid (Lib.validD (s.data.toList.drop (pos+k))=true/\R=Pt.plain (Pt.nums (s.data.toList.drop (pos+k)))):=hid ⟨HD.out.2,by have h:=HD.out.1;rw[if_neg (by omega)]at h;exact h⟩;have z1:¬(r:Int)<32:=by omega
      have z2:((r:Int)==127)=false:=by rw[beq_eq_false_iff_ne];omega
      clear HD;go_wp2
      go_roundw
      case rel=>exact⟨pos+k,rfl,HR⟩
      case measure=>simp;omega
   ·have hnx:∀ ty,(Instr.next (.pointer (some ⟨w2.heap.size,0,none⟩)) true ty).run prog (w2.iter s pos)=_:=fun ty=>run_next_end w2 s pos ty hp
    have hR:R=true:=by
     rw[H1.out.2,List.drop_eq_nil_of_le (by rw[HZ.out];omega)];rfl
    subst hR;go_wp2
    go_ret
    exact⟨zAc HG2.out _,rfl⟩
 ·have hv':Lib.validD s.data.toList=false:=by simpa using hv
  have eP:Pt.plain (strL s)=false:=Pt.plain_invalid _ hv';rw[hv']at hV;rw[eP];go_enter func164,ntmps164
  go_wp2_with (go_at_call 183;refine hV.mono ?_;rintro e w2 ⟨rfl,hg2⟩;have HG2:=hid hg2;clear hg2)
  go_ret
  exact⟨HG2.out,rfl⟩
theorem zKw {w:World} {A:Nat->Addr} (h:AllErrs w A):w.cell? ⟨4,0,none⟩=some (errV A 3):=zAs h 3 (by decide)
theorem zKv {w:World} {A:Nat->Addr} (h:AllErrs w A):w.cell? ⟨9,0,none⟩=some (errV A 8):=zAs h 8 (by decide)
def zJs (A:Nat->Addr) (k:Nat):Value:=if k=0 then .nilIface else errV A k
theorem zFo (A:Nat->Addr) (w:World) (hE:AllErrs w A) (hP:zEG w) (s:ByteArray) (most:Int) (W:World) (hs:s.size<=2000) (hm:inT most) (hg:w.grownBy W none) :
  Calls prog 140 #[.string s,.int .i64 most] W fun e w'=>W.grownBy w' none/\e=.returned (zJs A (Pt.asked (strL s) most)):=by
 have hEW:=hE.grown hg;have e2:=zDC hEW;have e3:=zKw hEW;have hPl:=hP s W hs hg;have hzl:=zAx s;rw[Pt.asked,hzl];unfold inT at hm;by_cases h0:s.size=0
 ·rw[if_pos h0];go_enter func140,ntmps140
  go_wp2
  go_ret
  exact⟨zAa _ _,rfl⟩
 ·rw[if_neg h0];have z0:((s.size:Int)==0)=false:=by rw[beq_eq_false_iff_ne];omega
  by_cases h1:most<(s.size:Int)
  ·rw[if_pos h1];go_enter func140,ntmps140
   go_wp2
   go_ret
   exact⟨zAa _ _,rfl⟩
  ·rw[if_neg h1];have HE:=hid hEW;clear hEW hE e2 e3;cases hp:Pt.plain (strL s)with
   |true =>
    rw[hp]at hPl;rw[if_pos rfl];go_enter func140,ntmps140
    go_wp2_with (go_at_call 164;refine hPl.mono ?_;rintro e w2 ⟨hg2,rfl⟩;have HG2:=hid hg2;clear hg2)
    go_ret
    exact⟨HG2.out,rfl⟩
   |false =>
    rw[hp]at hPl;rw[if_neg (by decide)];go_enter func140,ntmps140
    go_wp2_with (go_at_call 164;refine hPl.mono ?_;rintro e w2 ⟨hg2,rfl⟩;have HG2:=hid hg2;have e8:=zKv (HE.out.grown hg2);clear hg2)
    go_ret
    exact⟨HG2.out,rfl⟩
theorem zG5 {l:List Nat} {most:Int} (h:Pt.asked l most≠0):Pt.asked l most=2∨Pt.asked l most=3∨Pt.asked l most=8:=by
 unfold Pt.asked at *
 repeat' split
 all_goals simp_all
theorem zJP (A:Nat->Addr) (w:World) (hE:AllErrs w A) (hP:zEG w):zMB A w:=by
 intro s most W hs hm hg;have hF:=zFo A w hE hP s most W hs hm hg;by_cases hk:Pt.asked (strL s) most=0
 ·rw[hk]at hF;simp only[if_pos hk];have hF':Calls prog 140 #[.string s,.int .i64 most] W fun e w'=>W.grownBy w' none/\e=.returned .nilIface:=hF
  clear hF hk hE hP hg;go_enter func104,ntmps104
  go_wp2_with (first
   |(go_at_call 140;refine hF'.mono ?_;rintro e w2 ⟨hg2,rfl⟩;have HG2:=hid hg2;clear hg2)
   |(refine zEJ (by rfl) 9 33 (.tmp 13) (by rfl) underlying9 underlying33 underlying5 s (by rfl) ?_;intro c w3 hg3 hB3;have HG3:=hid (zAb HG2.out hg3);have HB3:=hid hB3;clear hg3 hB3))
  go_ret2
  exact⟨HG3.out,_,_,rfl,HB3.out⟩
 ·simp only[if_neg hk];have hn:=zG5 hk;generalize Pt.asked (strL s) most=k at *;have hF':Calls prog 140 #[.string s,.int .i64 most] W fun e w'=>W.grownBy w' none/\e=.returned (errV A k):=by
   unfold zJs at hF;rw[if_neg hk]at hF;exact hF
  clear hF hk hE hP hg;go_enter func104,ntmps104
  go_wp2_with (go_at_call 140;refine hF'.mono ?_;rintro e w2 ⟨hg2,rfl⟩;have HG2:=hid hg2;clear hg2)
  go_ret2
  exact⟨HG2.out,_,_,rfl⟩
theorem zJR (A:Nat->Addr) (w:World) (hE:AllErrs w A) (hP:zEG w):zKK A w:=by
 intro v s most W hs hm hg hB;have hF:=zFo A w hE hP s most W hs hm hg;have hc:=fun(W:World) (h:Bytes W v (strL s))=>zAS (P:=prog) h 33 5 9 underlying33 underlying5 underlying9
 have hcv:=hc W hB;rw[zCJ]at hcv;obtain⟨_,a,sb,so,c,rfl,_⟩:=hB;clear hc;by_cases hk:Pt.asked (strL s) most=0
 ·rw[hk]at hF;simp only[if_pos hk];have hF':Calls prog 140 #[.string s,.int .i64 most] W fun e w'=>W.grownBy w' none/\e=.returned .nilIface:=hF
  clear hF hk hE hP hg;go_enter func124,ntmps124
  go_wp2_with (go_at_call 140;refine hF'.mono ?_;rintro e w2 ⟨hg2,rfl⟩;have HG2:=hid hg2;clear hg2)
  go_ret2
  exact⟨HG2.out,rfl⟩
 ·simp only[if_neg hk];have hn:=zG5 hk;have hF':Calls prog 140 #[.string s,.int .i64 most] W fun e w'=>W.grownBy w' none/\e=.returned (errV A (Pt.asked (strL s) most)):=by
   unfold zJs at hF;rw[if_neg hk]at hF;exact hF
  generalize Pt.asked (strL s) most=k at *;clear hF hk hE hP hg;go_enter func124,ntmps124
  go_wp2_with (go_at_call 140;refine hF'.mono ?_;rintro e w2 ⟨hg2,rfl⟩;have HG2:=hid hg2;clear hg2)
  go_ret2
  exact⟨HG2.out,rfl⟩
theorem u8X:U8Extra prog Tryz.lays196_ren where
 n3:=by kernel_rfl
 n4:=by kernel_rfl
 y3:=by kernel_rfl
 y4:=by kernel_rfl
 c5:=by kernel_rfl
 c119:=by kernel_rfl
 c138:=by kernel_rfl
theorem dAcc:(Rows.laid_unicode_utf8_acceptRanges:DataW Unit)=Lib.acceptData:=by kernel_rfl
theorem dFst:(Rows.laid_unicode_utf8_first:DataW Unit)=Lib.firstData:=Pinned.utf8First_eq
theorem zMG {W:World} {L:List (String×DataW Unit)} (h:laidMet prog L W) (h1:("unicode/utf8.first",(Rows.laid_unicode_utf8_first:DataW Unit))∈L) (h2:("unicode/utf8.acceptRanges",(Rows.laid_unicode_utf8_acceptRanges:DataW Unit))∈L):U8 W:=by
 have r1:=Lib.laidMet.reads h h1;have r2:=Lib.laidMet.reads h h2;rw[dFst]at r1;rw[dAcc]at r2;exact utf8Tabs_of_readsT (U8Types.of196 Tryz.lays196) u8X r1 r2
end Go.Proofs.YtijkaknggdaajaaGreatDoor
