import Derived.Test.YtijkaknggdaajaaGreatDoorZw21
set_option linter.unusedVariables false
set_option linter.unusedSimpArgs false
set_option maxRecDepth 100000
set_option maxHeartbeats 2000000
namespace Go.Proofs.YtijkaknggdaajaaGreatDoor
open Go.Proofs.Tryz
open Lib (hid)
open Go.RowKit
theorem zHH (A:Nat->Addr) (s:ByteArray) (tp:TypeId) (p:Value) (w:World) (hF:Figs w tp p) (hE:RFErrs w A) :
  Calls prog 182 #[.string s] w fun e w'=>e=.returned (.tuple (encN A (Od.numOf (strL s))))/\w.grownBy w' none:=by
 by_cases hl:10<s.size
 ·have hx:encN A (Od.numOf (strL s))=#[.int .i64 0,errV A 4]:=by
   rw[Od.numOf,Od.part,if_neg (by rw[zAx];omega)];rfl
  rw[hx];have eF:=hE.form;clear hF hE hx;go_enter func182,ntmps182
  go_wp2
  go_quiet (fail)
  go_wp2
  go_ret2
  exact⟨rfl,zAd (zAa _ _) _⟩
 ·have hx:encN A (Od.numOf (strL s))=#[.int .i64 (zBz (strL s)).1,zAu A (zBz (strL s)).2]:=by
   rw[Od.numOf,Od.part,zBz];by_cases hf:Wh.figs (strL s)=true
   ·rw[if_pos ⟨hf,by rw[zAx];omega⟩,if_pos hf];rfl
   ·rw[if_neg (fun h=>hf h.1),if_neg hf];rfl
  rw[hx];have HW:=hid (zGn A s tp p w hF hE);generalize zAu A (zBz (strL s)).2=E at *;generalize (zBz (strL s)).1=n at *;clear hF hE hx;go_enter func182,ntmps182
  go_wp2_with (go_at_call 199;refine HW.out.mono ?_;rintro e w1 ⟨rfl,hg1⟩;have HG1:=hid hg1;clear hg1)
  go_ret2
  exact⟨rfl,HG1.out⟩
theorem zJ4 {l:List Int} {x y:Int} (h2:2<=l.length) (h16:l.length<=16) (hx:l.getD 0 0=x) (hy:l.getD 1 0=y) (hall:∀ j,j<l.length->0<=l.getD j 0/\l.getD j 0<=2147483647) :
  Od.right l=((decide (x<2)&&decide (y<40))||decide (x=2)):=by
 have h0:=(hall 0 (by omega)).1;rw[hx]at h0;rw[Bool.eq_iff_iff,Od.right_iff,hx,hy];simp only[Bool.or_eq_true,Bool.and_eq_true,decide_eq_true_eq];constructor
 ·rintro⟨⟨_,_,_,h3,h4⟩,_⟩;omega
 ·intro h;refine⟨⟨h2,h16,h0,by omega,by omega⟩,fun n hn=>?_⟩;obtain⟨j,hj,rfl⟩:=List.getElem_of_mem hn;have:=hall j hj;rw[List.getD_eq_getElem?_getD,List.getElem?_eq_getElem hj]at this;exact this
theorem zIx {l:List Int} (j:Nat) (hj:j<l.length) (h:¬(0<=l.getD j 0/\l.getD j 0<=2147483647)):Od.right l=false:=by
 rw[<-Bool.not_eq_true];intro e;refine h (((Od.right_iff l).1 e).2 _ ?_);rw[List.getD_eq_getElem?_getD,List.getElem?_eq_getElem hj];exact List.getElem_mem hj
theorem right_len {l:List Int} (h:l.length<2∨16<l.length):Od.right l=false:=by
 rw[<-Bool.not_eq_true];intro e;have:=((Od.right_iff l).1 e).1;omega
theorem zGV (v:Value) (l:List Int) (w:World) (hI:Ints w v l) (hl:l.length<=1099511620000) :
  Calls prog 163 #[v] w fun e w'=>e=.returned (.bool (Od.right l))/\w'=w:=by
 obtain⟨a1,g1,o1,c1,rfl,k1,k2,k3⟩:=hI;by_cases hlen:l.length<2∨16<l.length
 ·rw[right_len hlen];clear k2 k3;generalize l.length=n at *;rcases hlen with h|h
  ·go_enter func163,ntmps163
   go_wp2
   go_ret
   exact⟨rfl,rfl⟩
  ·have h':¬ n<2:=by omega
   go_enter func163,ntmps163
   go_wp2
   go_ret
   exact⟨rfl,rfl⟩
 ·have h2:¬ l.length<2:=fun h=>hlen (.inl h)
  have h16:¬ 16<l.length:=fun h=>hlen (.inr h)
  clear hlen hl;obtain⟨rfl,hlt⟩:=k2 (by omega);have K3:=hid k3;have HO:=hid (fun j (hj:j<l.length) h=>zIx (l:=l) j hj h);have HR:=hid (zJ4 (x:=l.getD 0 0) (y:=l.getD 1 0) (l:=l) (by omega) (by omega) rfl rfl);obtain⟨n,hn⟩:∃ n,n=l.length:=⟨_,rfl⟩
  rw[<-hn]at K3 HO HR h2 h16 ⊢;clear k1 k2 k3 hn hlt;generalize Od.right l=R at *;go_enter func163,ntmps163
  go_wp2
  go_loopw [15] (fun i wr=>∃ k:Nat,k<=n/\i=.int .i64 k/\wr=w/\∀ j,j<k->0<=l.getD j 0/\l.getD j 0<=2147483647) (fun i _=>n-(intOf i).toNat)
  case atStart=>exact⟨0,Nat.zero_le _,rfl,rfl,fun j hj=>absurd hj (Nat.not_lt_zero _)⟩
  case round =>
   obtain⟨k,hk,rfl,rfl,hall⟩:=hrel;have HAll:=hid hall;clear hall;by_cases hlt:k<n
   ·have f1:=K3.out k hlt;by_cases hx:0<=l.getD k 0/\l.getD k 0<=2147483647
    ·have HX:=hid hx;obtain⟨x1,x2⟩:=hx;generalize hxx:l.getD k 0=x at *;have HXX:=hid hxx;have y1:¬ x<0:=by omega
     have y2:¬ 2147483647<x:=by omega
     clear hxx;go_wp2
     go_roundw
     case rel=>exact⟨k+1,by omega,by go_num,trivial,fun j hj=>(by
      rcases Nat.lt_or_ge j k with h|h
      ·exact HAll.out j h
      ·obtain rfl:j=k:=by omega
       rw[HXX.out];exact HX.out)⟩
     case measure=>simp[intOf];omega
    ·have hR:=HO.out k hlt hx;have hR2:=hid hR;have hxo:l.getD k 0<0∨(¬ l.getD k 0<0/\2147483647<l.getD k 0):=by omega
     generalize l.getD k 0=x at *;clear hx hR;rcases hxo with h|⟨h,h'⟩
     ·go_wp2
      go_ret
      exact⟨by rw[hR2.out];rfl,rfl⟩
     ·go_wp2
      go_ret
      exact⟨by rw[hR2.out];rfl,rfl⟩
   ·obtain rfl:k=n:=by omega
    have hR:=HR.out HAll.out;have f0:=K3.out 0 (by omega);have f1:=K3.out 1 (by omega);rw[Nat.add_zero]at f0;generalize l.getD 0 0=x at *;generalize l.getD 1 0=y at *;have hR2:=hid hR;clear hR;by_cases hx:x<2
    ·by_cases hy:y<40
     ·go_wp2
      go_ret
      exact⟨by rw[hR2.out];simp[hx,hy],rfl⟩
     ·have hx2:x≠2:=by omega
      have hb:(x==2)=false:=by simp[hx2]
      go_wp2
      go_ret
      exact⟨by rw[hR2.out];simp[hx,hy,hx2],rfl⟩
    ·by_cases hx2:x=2
     ·subst hx2;go_wp2
      go_ret
      exact⟨by rw[hR2.out];simp,rfl⟩
     ·have hb:(x==2)=false:=by simp[hx2]
      go_wp2
      go_ret
      exact⟨by rw[hR2.out];simp[hx2];omega,rfl⟩
theorem zKy (args:Array Value) (w:World):(callFunc 180 args).run prog w=.ok (.enter 180 args) w:=by
 simp[go_sem]
theorem zKq (s:List Nat):Od.parse s=match Od.gat ((Od.split s).map Od.numOf)with | .error k=>.error k | .ok a=>if Od.right (a.take 17)=true then .ok (a.take 17)else .error 1:=Od.parse_gat s
theorem zIS (A:Nat->Addr) (s:ByteArray) (hs:s.size<=100000) (tp:TypeId) (p:Value) (w:World) (hF:Figs w tp p) (hE:RFErrs w A) :
  Calls prog 138 #[.string s] w fun e w'=>w.grownBy w' none/\match Od.parse (strL s)with
   |.ok l=>∃ a c,e=.returned (.tuple #[.slice a l.length c,.nilIface])/\Ints w' (.slice a l.length c) l/\Whole0 (.slice a l.length c)
   |.error k=>e=.returned (.tuple #[.slice none 0 0,errV A k]):=by
 have HO:=hid (zHC s w);have HG:=hid (zD3 A 180 #[.pointer (some ⟨w.heap.size,0,none⟩)] 6 _ (w.alloc (.cells #[.string s] 9)) zKy
  (zEm A s (by omega) w.heap.size (w.alloc (.cells #[.string s] 9)) (Boxed.new w _ _)
   (fun q W hW=>zHH A q tp p W ((hF.grown (World.grownBy_alloc w _ none)).grown hW) ((hE.grown (World.grownBy_alloc w _ none)).grown hW)) zJi))
 have HER:=hid (fun W (hW:w.grownBy W none)=>(hE.grown (w':=W) hW).range);have HA:=hid (World.grownBy_alloc w (.cells #[.string s] 9) none);rw[zKq];cases hg:Od.gat ((Od.split (strL s)).map Od.numOf)with
 |error q =>
  have HG2:Hid (Calls prog 154 #[.func (.func 180) #[] #[.pointer (some ⟨w.heap.size,0,none⟩)]] (w.alloc (.cells #[.string s] 9)) fun e w'=>e=.returned (.tuple #[.slice none 0 0,errV A q])/\w.grownBy w' none):=hid (HG.out.mono (by
   rintro e w' ⟨h1,h2⟩;rw[hg]at h2;exact⟨h2,zAb HA.out h1⟩))
  clear HG hF hE hg;go_enter func138,ntmps138
  go_wp2_with (first
   |(go_at_call 162;refine HO.out.mono ?_;rintro e w1 ⟨rfl,rfl⟩)
   |(go_at_call 154;refine HG2.out.mono ?_;rintro e w2 ⟨rfl,hg2⟩;have HG3:=hid hg2;clear hg2))
  go_ret2
  exact⟨HG3.out,rfl⟩
 |ok a =>
  have ha:(a.take 17).length<=17:=by rw[List.length_take];omega
  obtain⟨T,hT⟩:∃ T,T=a.take 17:=⟨_,rfl⟩
  simp only[];rw[<-hT]at ha ⊢;have HG2:Hid (Calls prog 154 #[.func (.func 180) #[] #[.pointer (some ⟨w.heap.size,0,none⟩)]] (w.alloc (.cells #[.string s] 9)) fun e w'=>∃ v,e=.returned (.tuple #[v,.nilIface])/\w.grownBy w' none/\Ints w' v T/\Whole0 v):=hid (HG.out.mono (by
   rintro e w' ⟨h1,h2⟩;rw[hg]at h2;obtain⟨v,h3,h4,h5⟩:=h2;exact⟨v,h3,zAb HA.out h1,by rw[hT];exact h4,h5⟩))
  have HI:=hid (fun v W (hv:Ints W v T)=>zGV v T W hv (by omega));clear HG hF hE hg hT;by_cases hr:Od.right T=true
  ·rw[if_pos hr];rw[hr]at HI;go_enter func138,ntmps138
   go_wp2_with (first
    |(go_at_call 162;refine HO.out.mono ?_;rintro e w1 ⟨rfl,rfl⟩)
    |(go_at_call 154;refine HG2.out.mono ?_;rintro e w2 ⟨v,rfl,hg2,hi2,hw2⟩;have HG3:=hid hg2;have HI3:=hid hi2;have HW3:=hid hw2;clear hg2 hi2 hw2)
    |(go_at_call 163;refine(HI.out _ _ HI3.out).mono ?_;rintro e w3 ⟨rfl,rfl⟩))
   go_ret2
   obtain⟨va,_,_,vc,hv,_⟩:=HI3.out;subst hv;exact⟨HG3.out,_,_,rfl,HI3.out,HW3.out⟩
  ·rw[if_neg hr];rw[Bool.not_eq_true]at hr;rw[hr]at HI;go_enter func138,ntmps138
   go_wp2_with (first
    |(go_at_call 162;refine HO.out.mono ?_;rintro e w1 ⟨rfl,rfl⟩)
    |(go_at_call 154;refine HG2.out.mono ?_;rintro e w2 ⟨v,rfl,hg2,hi2,hw2⟩;have HG3:=hid hg2;have HI3:=hid hi2;have eR:=HER.out w2 hg2;clear hg2 hi2 hw2)
    |(go_at_call 163;refine(HI.out _ _ HI3.out).mono ?_;rintro e w3 ⟨rfl,rfl⟩))
   go_quiet (fail)
   go_wp2
   go_ret2
   exact⟨zAd HG3.out _,rfl⟩
theorem zFk:∀ l:List Int,l≠[]->Lib.join (l.map fun n=>(strOf (Wh.dig n.toNat)).data.toList) [46]=(Od.text l).map UInt8.ofNat
 |[n],_=>by
  rw[List.map_cons,List.map_nil,Lib.join_one];simp[Od.text,strOf]
 |x :: y :: r,_=>by
  have h:=zFk (y :: r) (by simp);have e:Od.text (x :: y :: r)=Wh.dig x.toNat++46 :: Od.text (y :: r):=rfl;rw[List.map_cons,Lib.join_cons]at h;rw[e,List.map_cons,List.map_cons,Lib.join_cons,List.map_append,List.map_cons,<-h];simp[Lib.joinTail,strOf]
theorem zJg (l:List Int) (hl:l≠[]) (h0:∀ n∈l,0<=n):(⟨(Lib.join ((l.map fun n=>strOf (serL n)).map (·.data.toList)) (⟨#[46]⟩:ByteArray).data.toList).toArray⟩:ByteArray)=strOf (Od.text l):=by
 have e:(l.map fun n=>strOf (serL n)).map (·.data.toList)=l.map fun n=>(strOf (Wh.dig n.toNat)).data.toList:=by
  rw[List.map_map];apply List.map_congr_left;intro n hn;have:=h0 n hn;simp[serL,show ¬ n<0 by omega]
 rw[e,show(⟨#[46]⟩:ByteArray).data.toList=[46]from rfl,zFk l hl];rfl
theorem zMR (L:Nat) (hL:L<=100) (W:World):(Instr.makeSlice 141 (.int .i64 (L:Int)) (.int .i64 (L:Int))).run prog W=.ok (.slice (some ⟨W.heap.size,0,none⟩) L L) (W.alloc (.cells (zA4 (List.replicate L [])).toArray 9)):=by
 obtain⟨iT,i1,i2,i3,i4⟩:=info_parts (P:=prog) (e:=9) (z:=.string ⟨#[]⟩) (size:=1) (bytes:=16) (by kernel_rfl);rw[run_makeSlice W 141 9 iT (.string ⟨#[]⟩) underlying141 i1 i2 .i64 .i64 L L (by omega) (by omega) (by rw[i3];simp;omega) (by rw[i4];simp;omega) (by omega),i3];have e:madeCells (Value.string ⟨#[]⟩).cells (Int.toNat (L:Int)*1)=(zA4 (List.replicate L [])).toArray:=by
  simp[madeCells,zA4,Value.cells];apply Array.ext
  ·simp
  ·intro i h1 h2;simp[Nat.mod_one,strOf]
 rw[e];rfl
structure PutT (w w':World) (l:List Int) (k:Nat):Prop where
 grown:w.grownBy w' none
 blk:w'.heap[w.heap.size]?=some (.cells (zA4 ((l.take k).map serL++List.replicate (l.length-k) [])).toArray 9 (0,0))
theorem PutT.set {w w':World} {l:List Int} {k:Nat} (h:PutT w w' l k) (hk:k<l.length):PutT w (w'.setCell ⟨w.heap.size,k,none⟩ (.string (strOf (serL (l.getD k 0))))) l (k+1):=by
 refine⟨zAq h.grown (.inl (Nat.le_refl _)) _,?_⟩;rw[heap_setCell_same w' w.heap.size k _ 9 _ h.blk]
 congr 2
 have e1:(l.take (k+1)).map serL=(l.take k).map serL++[serL (l.getD k 0)]:=by
  rw[List.take_add_one,List.map_append,List.getElem?_eq_getElem hk,List.getD_eq_getElem?_getD,List.getElem?_eq_getElem hk];simp
 obtain⟨m,hm⟩:∃ m,l.length-k=m+1:=⟨l.length-k-1,by omega⟩
 rw[e1,hm,show l.length-(k+1)=m by omega,List.setIfInBounds_toArray];unfold zA4;rw[List.map_append,List.map_append,List.map_append,List.set_append_right _ _ (by simp;omega)];simp[List.replicate_succ,Nat.min_eq_left (Nat.le_of_lt hk)]
theorem PutT.zero {w w':World} {l:List Int} {k:Nat} (h:PutT w w' l k) (hk:k<l.length):w'.cell? ⟨w.heap.size,k,none⟩=some (.string (strOf [])) :=
 cell_blk h.blk k (by
  obtain⟨m,hm⟩:∃ m,l.length-k=m+1:=⟨l.length-k-1,by omega⟩
  rw[hm];simp[zA4,Nat.min_eq_left (Nat.le_of_lt hk)])
theorem PutT.more {w w1 w2:World} {l:List Int} {k:Nat} (h:PutT w w1 l k) (hg:w1.grownBy w2 none):PutT w w2 l k :=
 ⟨zAb h.grown hg,(hg.block _ (zAi h.blk) (by simp)).trans h.blk⟩
structure Tab10 (w:World):Prop where
 tab:Lib.TabIs prog w "internal/strconv.uint64pow10" .u64 Lib.pow10Tab
theorem Tab10.grown {w w':World} (h:Tab10 w) (hg:w.grownBy w' none):Tab10 w':=⟨zDi h.tab hg⟩
theorem zHN (u:Nat) (hu:u<9223372036854775808) (w:World) (hF:Tab10 w) :
  Calls prog 194 #[.int .i64 u] w fun e w'=>e=.returned (.string (strOf (Wh.dig u)))/\w.grownBy w' none :=
 (Any.strconv_Itoa Tryz.laysM171 u (by omega) (by omega) w hF.tab).mono (by
  rintro e w' ⟨rfl,k,os,rfl⟩;exact⟨by rw[zFl u (by omega)],zD1 w k os⟩)
theorem zEQ (n:Int) (h2:n<9223372036854775808) (w:World) (hF:Tab10 w) :
  Calls prog 175 #[.int .i64 n] w fun e w'=>e=.returned (.string (strOf (serL n)))/\w.grownBy w' none:=by
 by_cases hn:n<0
 ·have HX:Hid (strOf (serL n)=⟨#[]⟩):=hid (by rw[serL,if_pos hn];rfl);go_enter func175,ntmps175
  go_wp2
  go_ret
  rw[HX.out];exact⟨rfl,zAa _ _⟩
 ·obtain⟨u,rfl⟩:∃ u:Nat,n=u:=⟨n.toNat,by omega⟩
  have HX:Hid (strOf (serL (u:Int))=strOf (Wh.dig u)):=hid (by rw[serL,if_neg hn,Int.toNat_natCast]);have HI:=hid (zHN u (by omega) w hF);rw[HX.out];generalize strOf (Wh.dig u)=t at *;clear hF;go_enter func175,ntmps175
  go_wp2_with (go_at_call 194;refine HI.out.mono ?_;rintro e w1 ⟨rfl,hg1⟩;have HG1:=hid hg1;clear hg1)
  go_ret
  exact⟨rfl,HG1.out⟩
theorem zIb (A:Nat->Addr) (w0:World) (hF0:Tab10 w0) (hE0:RFErrs w0 A):zMA A w0:=by
 intro v l w hw hI hl;have HId:=hid (zGV v l w hI (by omega));by_cases hr:Od.right l=true
 ·rw[if_pos hr];obtain⟨⟨hl2,hl16,_⟩,hall⟩:=(Od.right_iff l).1 hr;have hall2:∀ j,j<l.length->0<=l.getD j 0/\l.getD j 0<=2147483647:=fun j hj=>by
   have e:l.getD j 0=l[j]:=by rw[List.getD_eq_getElem?_getD,List.getElem?_eq_getElem hj];rfl
   rw[e];exact hall l[j] (List.getElem_mem hj)
  obtain⟨a,g,o,c,rfl,hc,ha,hcell⟩:=hI;obtain⟨rfl,hg⟩:=ha (by omega);rw[hr]at HId;have HS:=hid (fun(z:Int) (hz:z<=2147483647) W hW=>zEQ z (by omega) W (hF0.grown (zAb hw hW)));have HCl:Hid (∀ W,w.grownBy W none->∀ j,j<l.length->W.cell? ⟨g,o+j,none⟩=some (.int .i64 (l.getD j 0))):=hid (fun W hW j hj=>by
   have:=hcell j hj;rw[<-World.cell?_of_block (hW.block g hg (by simp))]at this;exact this)
  have HJ:Hid (∀ W,PutT w W l l.length->Calls prog 176 #[.slice (some ⟨w.heap.size,0,none⟩) l.length l.length,.string ⟨#[46]⟩] W fun e w'=>e=.returned (.string (strOf (Od.text l)))/\W.grownBy w' none):=hid (fun W hW=>by
   have hb:=hW.blk;rw[Nat.sub_self,List.replicate_zero,List.append_nil,List.take_length]at hb;have hj:=zJg l (by intro e;rw[e]at hl2;simp at hl2) (fun n hn=>(hall n hn).1);have hlen:(Lib.join ((l.map fun n=>strOf (serL n)).map (·.data.toList)) (⟨#[46]⟩:ByteArray).data.toList).length=(strOf (Od.text l)).size:=by rw[<-hj];rfl
   have hT:=Od.text_len l;have:=Any.strings_Join Tryz.lays156 Tryz.Builder_Extra_156 w.heap.size 0 l.length (l.map fun n=>strOf (serL n)) ⟨#[46]⟩ W
    (fun j x hx=>by
     rw[Nat.zero_add];refine cell_blk hb j ?_;rw[List.getElem?_map]at hx;simp only[zA4,List.map_map,List.getElem?_toArray,List.getElem?_map];cases hq:l[j]? with
     |none=>rw[hq]at hx;cases hx
     |some z=>rw[hq]at hx;simp at hx ⊢;exact hx)
    (zAi hb) (by rw[List.length_map];omega) (by rw[List.length_map];omega) (by rw[hlen,zAE];omega)
   rw[hj,List.length_map]at this;exact this.mono (fun e w' h=>⟨h.1,zBE h.2⟩))
  have HP0:Hid (PutT w (w.alloc (.cells (zA4 (List.replicate l.length [])).toArray 9)) l 0):=hid ⟨World.grownBy_alloc _ _ _,by rw[alloc_at];simp⟩;have HSet:=hid (fun W k (h:PutT w W l k) hk=>h.set hk);have HZer:=hid (fun W k (h:PutT w W l k) hk=>h.zero hk);have HAl:=hid hall2;have hmk:=zMR l.length (by omega) w;obtain⟨n,hn⟩:∃ n,n=l.length:=⟨_,rfl⟩
  rw[<-hn]at HId HJ HP0 HCl HSet HZer HAl hmk hl16 hl2 hc ⊢;generalize strOf (Od.text l)=R at *;clear hall hall2 hcell ha hF0 hE0 hw hl hr hn;go_enter func156,ntmps156
  go_wp2_with (go_at_call 163;refine HId.out.mono ?_;rintro e w1 ⟨rfl,hw1⟩;have hw2:=hw1.symm;subst hw2;clear hw1)
  clear hmk;go_loopw [16] (fun i wr=>∃ k:Nat,k<=n/\i=.int .i64 k/\PutT w wr l k) (fun i _=>n-(intOf i).toNat)
  case atStart=>exact⟨0,by omega,rfl,HP0.out⟩
  case round =>
   obtain⟨k,hk,rfl,hP⟩:=hrel;have HP:=hid hP;clear hP;by_cases hkn:k<n
   ·have hck:=HCl.out _ HP.out.grown k hkn;have HZ:=hid (HAl.out k hkn);have HSk:=hid (fun W h=>HSet.out W k h hkn);generalize l.getD k 0=z at *;go_wp2_with (go_at_call 175;refine(HS.out z HZ.out.2 _ HP.out.grown).mono ?_;rintro e w3 ⟨rfl,hg3⟩;have HP3:=hid (HP.out.more hg3);have HB3:=hid (HP.out.more hg3).blk;have x1:=zAh HB3.out k;have x0:=HZer.out _ k HP3.out hkn;clear hg3)
    go_roundw
    case rel=>exact⟨k+1,by omega,by go_num,HSk.out _ HP3.out⟩
    case measure=>simp[intOf];omega
   ·obtain rfl:k=n:=by omega
    go_wp2_with (go_at_call 176;refine(HJ.out _ HP.out).mono ?_;rintro e w3 ⟨rfl,hg3⟩;have HG3:=hid (zAb HP.out.grown hg3);clear hg3)
    go_ret2
    exact⟨HG3.out,rfl⟩
 ·rw[if_neg hr];rw[Bool.not_eq_true]at hr;rw[hr]at HId;have eR:=(hE0.grown hw).range;clear hE0 hF0 hI hr;go_enter func156,ntmps156
  go_wp2_with (go_at_call 163;refine HId.out.mono ?_;rintro e w1 ⟨rfl,hw1⟩;have hw2:=hw1.symm;subst hw2;clear hw1)
  go_quiet (fail)
  go_wp2
  go_ret2
  exact⟨zAd (zAa _ _) _,rfl⟩
theorem zMX {n:Nat} (hn:n<4398046511104) (i:Nat) (h:n/128 ^ i≠0):Od.hi (n/128 ^ i)=Od.hi (n/128 ^ (i+1))++[n/128 ^ i%128+128]:=by
 have:=Nat.div_le_self n (128 ^ i);rw[Od.hi_step h (by omega),Nat.pow_succ,<-Nat.div_div_eq_div_mul]
theorem zJj:∀ (f m:Nat),(Od.hiF f m).length<=f
 |0,m=>Nat.le_refl _
 |f+1,m=>by
  rw[Od.hiF];split
  ·simp
  ·have:=zJj f (m/128);rw[List.length_append];simp;omega
theorem zMw (n i:Nat):(Od.hi (n/128 ^ i)).length<=10:=zJj 10 _
theorem zLz {n:Nat} (hn:n<=2147483800) (i:Nat) (h:0<n/128 ^ i):i<=4:=by
 rcases Nat.lt_or_ge 4 i with h5|h5
 ·have:n/128 ^ i=0:=Nat.div_eq_of_lt (Nat.lt_of_lt_of_le (show n<128 ^ 5 by have:(128 ^ 5:Nat)=34359738368:=(by decide);omega) (Nat.pow_le_pow_right (by decide) h5));omega
 ·exact h5
theorem zMN:∀ q:Fin 256,bits BinOp.or IntKind.u8 128 ((q.val:Nat):Int)=((q.val%128+128:Nat):Int):=by decide +kernel
theorem zKS:∀ q:Fin 256,bits BinOp.andNot IntKind.u8 ((q.val:Nat):Int) 128=((q.val%128:Nat):Int):=by decide +kernel
theorem zMn (m:Nat):bits BinOp.or IntKind.u8 128 ((m:Int)%256)=((m%128+128:Nat):Int):=by
 have h:=zMN ⟨m%256,Nat.mod_lt _ (by decide)⟩;have e:(m:Int)%256=((m%256:Nat):Int):=by omega
 rw[e,h];simp only[]
 congr 1
 omega
theorem zLI (m:Nat):bits BinOp.andNot IntKind.u8 ((m:Int)%256) 128=((m%128:Nat):Int):=by
 have h:=zKS ⟨m%256,Nat.mod_lt _ (by decide)⟩;have e:(m:Int)%256=((m%256:Nat):Int):=by omega
 rw[e,h];simp only[]
 congr 1
 omega
theorem zH0 (w0 w:World) (v:Value) (L:List Nat) (n:Nat) (hn:n<=2147483800) (hL:L.length<=1000000) (hF:FrW w0 w v L) :
  Calls prog 139 #[v,.int .i64 (n:Int)] w fun e w'=>∃ u,e=.returned u/\FrW w0 w' u (L++Od.sept n):=by
 obtain⟨a,g,c,rfl,_⟩:=zAl hF.own;have HSh:=hid (zGJ n);have HF:=hid hF;have HP:=hid (zLz hn);have HHi:=hid (fun i h=>zMX (n:=n) (by omega) i h);have HSp:Hid (Od.sept n=Od.hi (n/128)++[n%128]):=hid (Od.sept_hi n (by omega));clear hF;go_enter func139,ntmps139
 go_wp2
 go_loopw [5] (fun s wr=>∃ k:Nat,1<=k/\k<=5/\s=.int .i64 k/\wr=w/\(k=1∨0<n/128 ^ (k-1))) (fun s _=>6-(intOf s).toNat)
 case atStart=>exact⟨1,by omega,by omega,rfl,rfl,.inl rfl⟩
 case round =>
  obtain⟨k,h1,h5,rfl,rfl,hk⟩:=hrel;have e1:=HSh.out k;by_cases hp:0<n/128 ^ k
  ·have hc:(0:Int)<(n:Int)/128 ^ k:=by exact_mod_cast hp
   have HK:=hid hp;have h4:=HP.out k hp;clear hp;go_wp2
   go_roundw
   case rel=>exact⟨k+1,by omega,by omega,by go_num,trivial,.inr (by rw[Nat.add_sub_cancel];exact HK.out)⟩
   case measure=>simp[intOf];omega
  ·have hc:¬(0:Int)<(n:Int)/128 ^ k:=fun h=>hp (by exact_mod_cast h)
   have hz:n/128 ^ k=0:=Nat.eq_zero_of_not_pos hp;have FS:Hid (FrW w0 wr (.slice a L.length c) (L++Od.hi (n/128 ^ (k-1+1)))):=hid (by
    rw[show k-1+1=k by omega,hz,Od.hi_zero,List.append_nil];exact HF.out)
   have HPos:Hid (∀ i,1<=i->i<=k-1->n/128 ^ i≠0):=hid (fun i hi hk'=>by
    rcases hk with h|h
    ·omega
    ·exact Nat.pos_iff_ne_zero.1 (Nat.lt_of_lt_of_le h (Nat.div_le_div_left (Nat.pow_le_pow_right (n:=128) (by decide) hk') (Nat.pow_pos (n:=i) (by decide:0<128)))))
   have hk1:(k:Int)-1=((k-1:Nat):Int):=by omega
   clear hp hz hk;go_wp2
   go_loopw [0,6] (fun o i wr=>∃ (j:Nat),j<=k-1/\i=.int .i64 j/\FrW w0 wr o (L++Od.hi (n/128 ^ (j+1)))) (fun _ i _=>(intOf i).toNat)
   case atStart=>exact⟨k-1,Nat.le_refl _,by rw[<-hk1],FS.out⟩
   case round =>
    obtain⟨j,hj,rfl,hF2⟩:=hrel;have HF2:=hid hF2;obtain⟨a2,g2,c2,hv2,_⟩:=zAl hF2.own;subst hv2;have e2:=HSh.out j;clear hF2;by_cases hj0:0<j
    ·have hne:=HPos.out j hj0 hj;have HSt:=hid (HHi.out j hne);clear hne;obtain⟨p,hp⟩:∃ p,p=n/128 ^ j%128+128:=⟨_,rfl⟩
     have hor:bits BinOp.or IntKind.u8 128 ((n:Int)/128 ^ j%256)=(p:Int):=by
      rw[hp,<-zMn,Int.natCast_ediv,Int.natCast_pow];rfl
     rw[<-hp]at HSt;have HA:Hid ((L++Od.hi (n/128 ^ (j+1))).length<=2000000):=hid (by
      have:=zMw n (j+1);rw[List.length_append];omega)
     generalize hAcc:L++Od.hi (n/128 ^ (j+1))=acc at *;have HAcc:=hid hAcc;clear hp hAcc;go_wp2_with (at_builtin;refine zAy (by rfl) (.tmp 20) (.tmp 27) 33 (by rfl) w0.heap.size 5 (.int .u8 0) 1 underlying33 (by kernel_rfl) rfl (by decide) _ acc.length (cellsL acc) (by rfl) (HF2.out.own.alloc _) ⟨_,0,none⟩ (.int .u8 (p:Int)) (by rfl) (cell_blk (alloc_at _ _) 0 rfl) rfl (by have:=HA.out;omega) (by have:=HF2.out.le;rw[zAe];omega) ?_;intro v' w3 ho3 hg3;have F3:=hid ((HF2.out.alloc _).step (l':=acc++[p]) ho3 hg3 (by rw[zAn];rfl));clear ho3 hg3)
     go_roundw
     case rel=>exact⟨j-1,by omega,by have:(j:Int)-1=((j-1:Nat):Int):=(by omega);go_num,by rw[show j-1+1=j by omega,HSt.out,<-List.append_assoc,HAcc.out];exact F3.out⟩
     case measure=>simp[intOf];omega
    ·obtain rfl:j=0:=by omega
     obtain⟨p,hp⟩:∃ p,p=n%128:=⟨_,rfl⟩
     have hor:bits BinOp.andNot IntKind.u8 ((n:Int)%256) 128=(p:Int):=by rw[hp,<-zLI]
     rw[<-hp]at HSp;have HA:Hid ((L++Od.hi (n/128 ^ (0+1))).length<=2000000):=hid (by
      have:=zMw n (0+1);rw[List.length_append];omega)
     have HEnd:Hid (L++Od.sept n=L++Od.hi (n/128 ^ (0+1))++[p]):=hid (by rw[HSp.out,Nat.zero_add,Nat.pow_one,List.append_assoc]);generalize L++Od.hi (n/128 ^ (0+1))=acc at *;clear hp;go_wp2_with (at_builtin;refine zAy (by rfl) (.tmp 29) (.tmp 33) 33 (by rfl) w0.heap.size 5 (.int .u8 0) 1 underlying33 (by kernel_rfl) rfl (by decide) _ acc.length (cellsL acc) (by rfl) (HF2.out.own.alloc _) ⟨_,0,none⟩ (.int .u8 (p:Int)) (by rfl) (cell_blk (alloc_at _ _) 0 rfl) rfl (by have:=HA.out;omega) (by have:=HF2.out.le;rw[zAe];omega) ?_;intro v' w3 ho3 hg3;have F3:=hid ((HF2.out.alloc _).step (l':=acc++[p]) ho3 hg3 (by rw[zAn];rfl));clear ho3 hg3)
     go_ret
     exact⟨_,rfl,by rw[HEnd.out];exact F3.out⟩
theorem zKG (w0 w:World) (v:Value) (L:List Nat) (n:Nat) (z:Int) (hz:z=(n:Int)) (hn:n<=2147483800) (hL:L.length<=1000000) (hF:FrW w0 w v L) :
  Calls prog 139 #[v,.int .i64 z] w fun e w'=>∃ u,e=.returned u/\FrW w0 w' u (L++Od.sept n):=by
 subst hz;exact zH0 w0 w v L n hn hL hF
theorem Od.put_lt (l:List Int):∀ x∈Od.put l,x<256:=fun x hx=>by
 rw[Od.put]at hx;rcases List.mem_append.1 hx with h|h
 ·exact Od.septUpto_lt _ 6 x h
 ·exact rest_lt _ x h
theorem zJC (w:World):Bytes w (.slice none 0 0) []:=⟨by simp,none,0,0,0,rfl,Nat.le_refl _,fun h=>absurd h (Nat.lt_irrefl _),fun j hj=>absurd hj (Nat.not_lt_zero _)⟩
theorem FrW.nil (w:World):FrW w w (.slice none 0 0) []:=⟨zAa _ _,World.ownsRow_nil _ _ _ _⟩
theorem zMj (A:Nat->Addr) (s:ByteArray) (hs:s.size<=100000) (tp:TypeId) (p:Value) (w:World) (hF:Figs w tp p) (hE:RFErrs w A) :
  Calls prog 102 #[.string s] w fun e w'=>w.grownBy w' none/\match Od.parse (strL s)with
   |.ok l=>∃ v,e=.returned (.tuple #[v,.nilIface])/\w'.ownsRow w.heap.size 5 1 v (Od.put l).length (cellsL (Od.put l))
   |.error k=>e=.returned (.tuple #[.slice none 0 0,errV A k]):=by
 have HP:=zIS A s hs tp p w hF hE;cases hp:Od.parse (strL s)with
 |error k =>
  rw[hp]at HP;have HP2:=hid HP;clear HP hF hE hp;go_enter func102,ntmps102
  go_wp2_with (go_at_call 138;refine HP2.out.mono ?_;rintro e w1 ⟨hg1,rfl⟩;have HG1:=hid hg1;clear hg1)
  go_ret2
  exact⟨HG1.out,rfl⟩
 |ok l =>
  rw[hp]at HP;obtain⟨⟨hl2,hl16,hx0,hx2,hxy⟩,hall⟩:=(Od.right_iff l).1 (Od.parse_ok hp).2;have hnat:∀ j,j<l.length->∃ u:Nat,l.getD j 0=u/\u<=2147483647:=fun j hj=>by
   have:=hall l[j] (List.getElem_mem hj);have e:l.getD j 0=l[j]:=by rw[List.getD_eq_getElem?_getD,List.getElem?_eq_getElem hj];rfl
   exact⟨(l.getD j 0).toNat,by omega,by omega⟩
  obtain⟨x,hx,hxb⟩:=hnat 0 (by omega);obtain⟨y,hy,hyb⟩:=hnat 1 (by omega);have hx2':x<=2:=by omega
  have HPut:Hid (Od.put l=Od.sept (40*x+y)++Od.rest (l.drop 2)):=hid (by rw[Od.put,hx,hy,Int.toNat_natCast,Int.toNat_natCast]);obtain⟨m,hm⟩:∃ m,l.length=m+2:=⟨l.length-2,by omega⟩
  have hm14:m<=14:=by omega
  have HNt:=hid hnat;obtain⟨r,hrr⟩:∃ r,r=l.drop 2:=⟨_,rfl⟩
  have hdl:r.length=m:=by rw[hrr,List.length_drop];omega
  have HRn:Hid (∀ j,j<m->∃ u:Nat,r.getD j 0=u/\u<=2147483647):=hid (fun j hj=>by
   obtain⟨u,h1,h2⟩:=hnat (j+2) (by omega);refine⟨u,?_,h2⟩;rw[<-h1,hrr];simp[List.getD_eq_getElem?_getD,Nat.add_comm])
  have HRt:Hid (∀ k,k<m->Od.rest (r.take (k+1))=Od.rest (r.take k)++Od.sept (r.getD k 0).toNat):=hid (fun k hk=>Od.rest_take r k (by omega));have HRl:Hid (∀ k,(Od.rest (r.take k)).length<=6*k):=hid (fun k=>by
   have:=Od.rest_len (r.take k);rw[List.length_take]at this;omega)
  have HRe:Hid (Od.rest (r.take m)=Od.rest r):=hid (by rw[List.take_of_length_le (by omega)]);rw[<-hrr]at HPut
  -- what Parse hands back: the arcs' cells
  have HP2:Hid (Calls prog 138 #[.string s] w fun e w'=>w.grownBy w' none/\∃ g o c,e=.returned (.tuple #[.slice (some ⟨g,o,none⟩) (m+2) c,.nilIface])/\m+2<=c/\g<w'.heap.size/\w'.cell? ⟨g,o,none⟩=some (.int .i64 (x:Nat))/\w'.cell? ⟨g,o+1,none⟩=some (.int .i64 (y:Nat)) /\
    (0<m->∃ g1 o1,subA (some ⟨g,o,none⟩) 2 c=some ⟨g1,o1,none⟩/\g1<w'.heap.size/\∀ j,j<m->w'.cell? ⟨g1,o1+j,none⟩=some (.int .i64 (r.getD j 0)))):=hid (HP.mono (by
   rintro e w' ⟨h1,a,c,h2,h3,_⟩;refine⟨h1,?_⟩;have h3':=h3;obtain⟨a0,g,o,c0,he,hc,ha,hcell⟩:=h3';cases he
   obtain⟨rfl,hg⟩:=ha (by omega);have hf:=Ints.from h3 2 (by omega)
   obtain⟨a1,g1,o1,c1,he,_,ha1,hcell1⟩:=hf;rw[<-hrr,hdl]at ha1 hcell1;have q0:=hcell 0 (by omega);have q1:=hcell 1 (by omega);rw[hx,Nat.add_zero]at q0;rw[hy]at q1;rw[hm]at h2 hc;refine⟨g,o,c,h2,hc,hg,q0,q1,fun hmp=>⟨g1,o1,?_,(ha1 hmp).2,hcell1⟩⟩;rw[<-(ha1 hmp).1];simp only[Value.slice.injEq]at he;exact he.1))
  have HAp:=hid (fun w0 w v L n z hz hn hL hF=>zKG w0 w v L n z hz hn hL hF);have HSl:=hid Od.sept_len;clear HP hF hE hp hl2 hl16 hx0 hx2 hxy hall hnat hx hy hm hrr hdl HNt;go_enter func102,ntmps102
  go_wp2_with (go_at_call 138;refine HP2.out.mono ?_;rintro e w1 ⟨hg1,g,o,c,rfl,hc,hgs,q0,q1,hmp⟩;have HG1:=hid hg1;have HMP:=hid hmp;have HGs:=hid hgs;clear hg1 hmp hgs)
  refine zCa (fun w'=>∃ n,w'=w1.drewN n) 8 (by kernel_rfl) (by kernel_rfl) ⟨1,rfl⟩ ?_;simp only[List.take_succ_cons,List.take_zero,List.drop_succ_cons,List.drop_zero]
  repeat (go_big_quiet_step (fail))
  refine wpQuiet_nil ?_;rintro _ ⟨n3,rfl⟩;obtain⟨W1,hW1⟩:∃ W1,W1=w1.drewN n3:=⟨_,rfl⟩
  have HG2:Hid (w.grownBy W1 none):=hid (by rw[hW1];exact zAd HG1.out _);have HM2:Hid (0<m->∃ g1 o1,subA (some ⟨g,o,none⟩) 2 c=some ⟨g1,o1,none⟩/\g1<W1.heap.size/\∀ j,j<m->W1.cell? ⟨g1,o1+j,none⟩=some (.int .i64 (r.getD j 0))):=hid (by rw[hW1];exact HMP.out);rw[<-hW1];have F0:=hid (FrW.nil W1);clear hW1 q0 q1 HG1 HMP HGs;go_wp2_with (go_at_call 139;refine(HAp.out W1 W1 _ [] (40*x+y) _ (by omega) (by omega) (by simp) F0.out).mono ?_;rintro e w2 ⟨u,rfl,hf2⟩;have F2:=hid hf2;clear hf2)
  rw[List.nil_append]at F2;obtain⟨S0,hS0⟩:∃ S0,S0=Od.sept (40*x+y):=⟨_,rfl⟩
  have HS0:Hid (S0.length<=6):=hid (by rw[hS0];exact HSl.out _);rw[<-hS0]at F2 HPut;have FS:Hid (FrW W1 w2 u (S0++Od.rest (r.take 0))):=hid (by rw[show Od.rest (r.take 0)=[]from rfl,List.append_nil];exact F2.out);clear hS0;rcases Nat.eq_zero_or_pos m with hmp|hmp
  ·have HM0:=hid hmp;clear hmp;go_loopw [6,29] (fun o i wr=>∃ k:Nat,k<=m/\i=.int .i64 k/\FrW W1 wr o (S0++Od.rest (r.take k))) (fun _ i _=>m-(intOf i).toNat)
   case atStart=>exact⟨0,by omega,rfl,FS.out⟩
   case round =>
    obtain⟨k,hk,rfl,hF⟩:=hrel;have HF:=hid hF;clear hF;obtain rfl:k=m:=by have:=HM0.out;omega
    go_wp2
    go_ret2
    exact⟨zAb HG2.out HF.out.grown,_,rfl,by rw[HPut.out,<-HRe.out];exact zBx HF.out.own HG2.out.size⟩
  ·obtain⟨g1,o1,hsub,hg1,hcs⟩:=HM2.out hmp;have HCr:Hid (∀ W,W1.grownBy W none->∀ j,j<m->W.cell? ⟨g1,o1+j,none⟩=some (.int .i64 (r.getD j 0))):=hid (fun W hW j hj=>by
    have:=hcs j hj;rw[<-World.cell?_of_block (hW.block g1 hg1 (by simp))]at this;exact this)
   clear hcs hg1;rw[hsub];go_loopw [6,29] (fun o i wr=>∃ k:Nat,k<=m/\i=.int .i64 k/\FrW W1 wr o (S0++Od.rest (r.take k))) (fun _ i _=>m-(intOf i).toNat)
   case atStart=>exact⟨0,by omega,rfl,FS.out⟩
   case round =>
    obtain⟨k,hk,rfl,hF⟩:=hrel;have HF:=hid hF;clear hF;by_cases hkm:k<m
    ·have hck:=HCr.out _ HF.out.grown k hkm;obtain⟨z,hz,hz2⟩:=HRn.out k hkm;have hrt:=HRt.out k hkm;rw[hz]at hck hrt;rw[Int.toNat_natCast]at hrt;have HRt2:=hid hrt;have hlen1:=HRl.out k;have HLn:Hid ((S0++Od.rest (r.take k)).length<=6+6*k):=hid (by rw[List.length_append];have:=HS0.out;omega);generalize hAcc:S0++Od.rest (r.take k)=acc at *;have HAcc:=hid hAcc;clear hrt hz hlen1 hAcc;go_wp2_with (go_at_call 139;refine(HAp.out W1 _ _ acc z _ rfl (by omega) (by have:=HLn.out;omega) HF.out).mono ?_;rintro e w4 ⟨u4,rfl,hf4⟩;have F4:=hid hf4;clear hf4)
     go_roundw
     case rel=>exact⟨k+1,by omega,by go_num,by rw[HRt2.out,<-List.append_assoc,HAcc.out];exact F4.out⟩
     case measure=>simp[intOf];omega
    ·obtain rfl:k=m:=by omega
     go_wp2
     go_ret2
     exact⟨zAb HG2.out HF.out.grown,_,rfl,by rw[HPut.out,<-HRe.out];exact zBx HF.out.own HG2.out.size⟩
theorem zLx (A:Nat->Addr) (tp:TypeId) (p:Value) (w:World) (hF:Figs w tp p) (hE:RFErrs w A):zK1 A w:=fun s W hs hW =>
 (zMj A s hs tp p W (hF.grown hW) (hE.grown hW)).mono (by
  rintro e w' ⟨h1,h2⟩;refine⟨h1,?_⟩;cases hp:Od.parse (strL s)with
  |error k=>rw[hp]at h2;exact⟨none,0,h2,zJC _⟩
  |ok l =>
   rw[hp]at h2;obtain⟨v,h3,h4⟩:=h2;have h5:=Bytes.own h4 (Od.put_lt l);have h6:=Whole0.own h4;obtain⟨a,_,c,rfl,_⟩:=zAl h4;exact⟨a,c,h3,h5,h6⟩)
attribute [local go_sem] Oper.semAt_some
theorem zCO (x:Nat) (hx:x<256) (w:World):Calls prog 193 #[.int .u8 (x:Int)] w fun e w'=>e=.returned (.bool (decide (x<128)))/\w'=w:=by
 have HX:Hid (decide ((x:Int)<128)=decide (x<128)):=hid (by rw[Bool.eq_iff_iff,decide_eq_true_iff,decide_eq_true_iff];omega);go_enter func193,ntmps193
 go_wp2
 go_ret
 exact⟨by rw[<-HX.out];rfl,rfl⟩
theorem zGk (v:Value) (b:List Nat) (k:Nat) (w:World) (hB:Bytes w v b) (hk:k<b.length) (hlo:∀ j,j<k->¬ b.getD j 0<128) (hhi:b.getD k 0<128) (hl:b.length<=1099511620000) :
  Calls prog 192 #[v,.func (.func 193) #[] #[]] w fun e w'=>e=.returned (.int .i64 k)/\w'=w:=by
 obtain⟨hb256,a,sb,so,c,rfl,hc,ha,hcell⟩:=hB;obtain⟨rfl,hsb⟩:=ha (by omega);have HC:=hid hcell;have HLo:=hid hlo;have HL:=hid (fun x hx W=>zCO x hx W);have HB:Hid (∀ j,b.getD j 0<256):=hid (fun j=>by
  rw[List.getD_eq_getElem?_getD];cases hq:b[j]? with
  |none=>simp
  |some z=>exact hb256 z (List.mem_of_getElem? hq))
 obtain⟨n,hn⟩:∃ n,n=b.length:=⟨_,rfl⟩
 rw[<-hn]at HC hk hl hc ⊢;clear hcell hlo hn ha hb256;go_enter func192,ntmps192
 go_wp2
 go_loopw [8] (fun i wr=>∃ j:Nat,j<=k/\i=.int .i64 j/\wr=w) (fun i _=>n-(intOf i).toNat)
 case atStart=>exact⟨0,by omega,rfl,rfl⟩
 case round =>
  obtain⟨j,hj,rfl,rfl⟩:=hrel;have f1:=HC.out j (by omega);have hx:=HB.out j;by_cases hjk:j=k
  ·subst hjk;generalize b.getD j 0=x at *;have HLx:=hid (HL.out x hx);have hd:decide (x<128)=true:=decide_eq_true hhi;rw[hd]at HLx;go_wp2_with (go_at_call 193;refine(HLx.out _).mono ?_;rintro e w1 ⟨rfl,rfl⟩)
   go_ret
   exact⟨rfl,rfl⟩
  ·have hlo:=HLo.out j (by omega);generalize b.getD j 0=x at *;have HLx:=hid (HL.out x hx);have hd:decide (x<128)=false:=decide_eq_false hlo;rw[hd]at HLx;go_wp2_with (go_at_call 193;refine(HLx.out _).mono ?_;rintro e w1 ⟨rfl,rfl⟩)
   go_roundw
   case rel=>exact⟨j+1,by omega,by go_num,trivial⟩
   case measure=>simp[intOf];omega
theorem zLB (s y:Nat) (hs:s<=2147483800) (hy:y<128):bits .or .i64 ((s:Int)*128) (y:Int)=((s*128+y:Nat):Int):=by
 have hx:s*128 ||| y=s*128+y:=by
  have:=Nat.two_pow_add_eq_or_of_lt (i:=7) (show y<2 ^ 7 by omega) s;rw[Nat.mul_comm];exact this.symm
 have e1:(BitVec.ofInt 64 (((s*128:Nat):Int))).toNat=s*128:=by
  rw[BitVec.ofInt_natCast,BitVec.toNat_ofNat];exact Nat.mod_eq_of_lt (by omega)
 have e2:(BitVec.ofInt 64 (y:Int)).toNat=y:=by
  rw[BitVec.ofInt_natCast,BitVec.toNat_ofNat];exact Nat.mod_eq_of_lt (by omega)
 have e3:(s:Int)*128=((s*128:Nat):Int):=by omega
 rw[e3]
 show IntKind.i64.wrap ((BitVec.ofInt 64 (((s*128:Nat):Int)) ||| BitVec.ofInt 64 (y:Int)).toNat:Int)=_
 rw[BitVec.toNat_or,e1,e2,hx];simp only[IntKind.wrap,IntKind.bits,IntKind.signed];simp;omega
theorem zLH (x:Nat) (hx:x<256):bits BinOp.andNot IntKind.u8 (x:Int) 128=((x%128:Nat):Int):=zKS ⟨x,hx⟩
theorem zGC:∀ (m:List Nat) (a:Nat),a<=m.foldl (fun a c=>a*128+c%128) a
 |[],a=>Nat.le_refl _
 |c :: r,a=>by
  rw[List.foldl_cons];exact Nat.le_trans (by omega) (zGC r _)
theorem sval_take (l:List Nat) (k:Nat):Od.sval (l.take k)<=Od.sval l:=by
 conv=>rhs;rw[<-List.take_append_drop k l]
 rw[Od.sval,Od.sval,List.foldl_append];exact zGC _ _
theorem zIh (l:List Nat) (k:Nat) (hk:k<l.length):Od.sval (l.take (k+1))=Od.sval (l.take k)*128+l.getD k 0%128:=by
 rw[List.take_add_one,List.getElem?_eq_getElem hk,List.getD_eq_getElem?_getD,List.getElem?_eq_getElem hk];exact Od.sval_snoc _ _
theorem zGj (v:Value) (b:List Nat) (w:World) (hB:Bytes w v b) (hlo:∀ j,j<b.length->¬ b.getD j 0<128) (hl:b.length<=1099511620000) :
  Calls prog 192 #[v,.func (.func 193) #[] #[]] w fun e w'=>e=.returned (.int .i64 (-1))/\w'=w:=by
 obtain⟨hb256,a,sb,so,c,rfl,hc,ha,hcell⟩:=hB;have HC:=hid hcell;have HA:Hid (0<b.length->a=some ⟨sb,so,none⟩):=hid (fun h=>(ha h).1);have HLo:=hid hlo;have HL:=hid (fun x hx W=>zCO x hx W);have HB:Hid (∀ j,b.getD j 0<256):=hid (fun j=>by
  rw[List.getD_eq_getElem?_getD];cases hq:b[j]? with
  |none=>simp
  |some z=>exact hb256 z (List.mem_of_getElem? hq))
 obtain⟨n,hn⟩:∃ n,n=b.length:=⟨_,rfl⟩
 rw[<-hn]at HC hl hc HLo HA ⊢;clear hcell hlo hn ha hb256;go_enter func192,ntmps192
 go_wp2
 go_loopw [8] (fun i wr=>∃ j:Nat,j<=n/\i=.int .i64 j/\wr=w) (fun i _=>n-(intOf i).toNat)
 case atStart=>exact⟨0,by omega,rfl,rfl⟩
 case round =>
  obtain⟨j,hj,rfl,rfl⟩:=hrel;by_cases hjk:j<n
  ·have hlo:=HLo.out j hjk;have f1:=HC.out j hjk;have hx:=HB.out j;have hae:=HA.out (by omega);subst hae;generalize b.getD j 0=x at *;have HLx:=hid (HL.out x hx);have hd:decide (x<128)=false:=decide_eq_false hlo;rw[hd]at HLx;go_wp2_with (go_at_call 193;refine(HLx.out _).mono ?_;rintro e w1 ⟨rfl,rfl⟩)
   go_roundw
   case rel=>exact⟨j+1,by omega,by go_num,trivial⟩
   case measure=>simp[intOf];omega
  ·obtain rfl:j=n:=by omega
   go_wp2
   go_ret
   exact⟨rfl,rfl⟩
theorem zEw (v:Value) (b:List Nat) (w:World) (hB:Bytes w v b) (h0:0<b.length) (hl:b.length<=100000) :
  Calls prog 173 #[v] w fun e w'=>e=.returned (.int .i64 (Od.fst b:Nat))/\w'=w:=by
 obtain⟨h1,h2,h3,h4⟩:=Od.fst_facts h0;obtain⟨a,c,hv⟩:∃ a c,v=.slice a b.length c:=by
  obtain⟨_,a,_,_,c,rfl,_⟩:=hB;exact⟨a,c,rfl⟩
 subst hv;rcases h4 with⟨h4,_⟩|⟨_,_,h5,h6⟩
 ·have HI:=hid (zGk _ b (Od.fst b-1) w hB (by omega) (fun j hj=>h3 j (by omega)) h4 (by omega));obtain⟨k,hk⟩:∃ k,Od.fst b=k+1:=⟨Od.fst b-1,by omega⟩
  rw[hk]at HI ⊢;rw[Nat.add_sub_cancel]at HI;obtain⟨n,hn⟩:∃ n,n=b.length:=⟨_,rfl⟩
  rw[<-hn]at HI hl ⊢;have hkl:k<100000:=by omega
  clear h1 h2 h3 h4 hk hB hn;go_enter func173,ntmps173
  go_wp2_with (go_at_call 192;refine HI.out.mono ?_;rintro e w1 ⟨rfl,rfl⟩)
  go_ret
  exact⟨by go_num,rfl⟩
 ·have HI:=hid (zGj _ b w hB h6 (by omega));rw[h5];obtain⟨n,hn⟩:∃ n,n=b.length:=⟨_,rfl⟩
  rw[<-hn]at HI ⊢;clear h1 h2 h3 h5 h6 hB hn;go_enter func173,ntmps173
  go_wp2_with (go_at_call 192;refine HI.out.mono ?_;rintro e w1 ⟨rfl,rfl⟩)
  go_ret
  exact⟨rfl,rfl⟩
structure SFErrs (w:World) (A:Nat->Addr):Prop where
 rf:RFErrs w A
 short:w.cell? ⟨3,0,none⟩=some (errV A 2)
theorem SFErrs.grown {w w':World} {A:Nat->Addr} (h:SFErrs w A) (hg:w.grownBy w' none):SFErrs w' A :=
 ⟨h.rf.grown hg,(World.cell?_of_block (hg.block _ (World.block_lt_of_cell? w _ h.short) (by simp))).trans h.short⟩
theorem AllErrs.sf {w:World} {A:Nat->Addr} (h:AllErrs w A):SFErrs w A:=⟨h.rf,zDC h⟩
theorem zEo (A:Nat->Addr) (v:Value) (b:List Nat) (most:Nat) (w:World) (hE:SFErrs w A) (hB:Bytes w v b) (h0:0<b.length) (hl:b.length<=100000) (hm2:most<=2147483800) :
  Calls prog 174 #[v,.int .i64 (most:Int)] w fun e w'=>e=.returned (.tuple (encN A (Od.numB most b)))/\w.grownBy w' none:=by
 obtain⟨hb256,a,sb,so,c,rfl,hc,ha,hcell⟩:=hB;obtain⟨rfl,hsb⟩:=ha h0;have HC:=hid hcell;have HB:Hid (∀ j,b.getD j 0<256):=hid (fun j=>by
  rw[List.getD_eq_getElem?_getD];cases hq:b[j]? with
  |none=>simp
  |some z=>exact hb256 z (List.mem_of_getElem? hq))
 have HT:=hid (fun k=>sval_take b k);have HS:=hid (fun k hk=>zIh b k hk);have HE:Hid (Od.sval (b.take b.length)=Od.sval b):=hid (by rw[List.take_length]);have c0:=hcell 0 h0;rw[Nat.add_zero]at c0;obtain⟨m,hm⟩:∃ m,b.length=m+1:=⟨b.length-1,by omega⟩
 have cl:=hcell m (by omega);have hb0:=HB.out 0;have hbl:=HB.out m;have HIl:=hid (zCO (b.getD m 0) hbl);have eS:=hE.short;have eR:=hE.rf.range;have eF:=hE.rf.form;unfold Od.numB;rw[hm,Nat.add_sub_cancel];rw[hm]at HC HS HE hc hl h0;have HR0:Hid (Od.sval b=Od.sval b):=hid rfl;by_cases hlast:b.getD m 0<128
 ·rw[if_neg (fun h=>h hlast)];rw[decide_eq_true hlast]at HIl;by_cases h128:b.getD 0 0=128
  ·rw[if_pos h128];rw[h128]at c0;have hx:((128:Nat):Int)=128:=rfl;rw[hx]at c0;generalize b.getD m 0=z at *;clear HC HB HT HS HE hcell hE ha hb256 hm eS eR hlast h128 hx hb0;unfold encN;go_enter func174,ntmps174
   go_wp2_with (go_at_call 193;refine(HIl.out _).mono ?_;rintro e w1 ⟨rfl,hw1⟩;have hw2:=hw1.symm;subst hw2;clear hw1)
   go_quiet (fail)
   go_wp2
   go_ret2
   exact⟨rfl,zAd (zAa _ _) _⟩
  ·rw[if_neg h128];have hne:((b.getD 0 0:Nat):Int)≠128:=by omega
   have hbn:(((b.getD 0 0:Nat):Int)==128)=false:=beq_eq_false_iff_ne.2 hne;have HRes:Hid (∃ R,R=Od.sval b):=hid ⟨_,rfl⟩;obtain⟨R,hR⟩:=HRes.out;rw[<-hR]at HT HE ⊢;obtain⟨X,hX⟩:∃ X,X=encN A (if most<R then Except.error 1 else .ok ((R:Nat):Int)):=⟨_,rfl⟩
   rw[<-hX];have HX1:Hid (most<R->X=#[.int .i64 0,errV A 1]):=hid (fun h=>by rw[hX,if_pos h];rfl);have HX2:Hid (R<=most->X=#[.int .i64 (R:Nat),.nilIface]):=hid (fun h=>by rw[hX,if_neg (by omega)];rfl);generalize b.getD m 0=z at *;generalize b.getD 0 0=b0 at *;clear hcell hE ha hb256 eS eF hlast h128 hne hb0 hR hX HRes HR0;obtain⟨n,hn⟩:∃ n,n=m+1:=⟨_,rfl⟩
   have HIn:=hid hn;go_enter func174,ntmps174
   go_wp2_with (go_at_call 193;refine(HIl.out _).mono ?_;rintro e w1 ⟨rfl,hw1⟩;have hw2:=hw1.symm;subst hw2;clear hw1)
   clear hbn c0 cl hn;go_loopw [6,25] (fun x i wr=>∃ j:Nat,j<=m+1/\i=.int .i64 j/\x=.int .i64 (Od.sval (b.take j):Nat)/\Od.sval (b.take j)<=most/\wr=w) (fun _ i _=>m+1-(intOf i).toNat)
   case atStart=>exact⟨0,by omega,rfl,rfl,by simp[Od.sval],rfl⟩
   case round =>
    obtain⟨j,hj,rfl,rfl,hle,rfl⟩:=hrel;by_cases hjn:j<m+1
    ·have f1:=HC.out j hjn;have hx:=HB.out j;have hst:=HS.out j hjn;have ht1:=HT.out (j+1);generalize b.getD j 0=x at *;generalize Od.sval (b.take j)=s0 at *;generalize hs1:Od.sval (b.take (j+1))=s1 at *;have HR1:Hid (Value.int IntKind.i64 ((s1:Nat):Int)=.int .i64 ((Od.sval (b.take (j+1)):Nat):Int)/\Od.sval (b.take (j+1))=s1):=hid ⟨by rw[hs1],hs1⟩;clear hs1;obtain⟨y,hy⟩:∃ y,y=x%128:=⟨_,rfl⟩
     have hy128:y<128:=by rw[hy];exact Nat.mod_lt _ (by decide)
     have k1:=zLH x hx;have k2:=zLB s0 y (by omega) hy128;rw[<-hy]at k1 hst;rw[<-hst]at k2;have HS1:=hid hst;clear hst hy;by_cases hms:most<s1
     ·have k3:most<s1:=hms;have HX3:=hid (HX1.out (by omega));clear ht1 hms;go_wp2
      go_quiet (fail)
      go_wp2
      go_ret2
      exact⟨by rw[HX3.out];rfl,zAd (zAa _ _) _⟩
     ·have k3:¬ most<s1:=hms;have HLe:Hid (s1<=most):=hid (by omega);clear ht1 hms;go_wp2
      go_roundw
      case rel=>exact⟨j+1,by omega,by go_num,HR1.out.1,by rw[HR1.out.2];exact HLe.out,trivial⟩
      case measure=>simp[intOf];omega
    ·obtain rfl:j=m+1:=by omega
     rw[HE.out]at hle ⊢;have HX3:=hid (HX2.out hle);go_wp2
     go_ret2
     exact⟨by rw[HX3.out];rfl,zAa _ _⟩
 ·rw[if_pos hlast];rw[decide_eq_false hlast]at HIl;generalize b.getD m 0=z at *;clear HC HB HT HS HE hcell hE ha hb256 hm eF eR hlast hb0 c0;unfold encN;go_enter func174,ntmps174
  go_wp2_with (go_at_call 193;refine(HIl.out _).mono ?_;rintro e w1 ⟨rfl,hw1⟩;have hw2:=hw1.symm;subst hw2;clear hw1)
  go_quiet (fail)
  go_wp2
  go_ret2
  exact⟨rfl,zAd (zAa _ _) _⟩
structure zKN (A:Nat->Addr) (w wr:World) (a:Option Addr) (n c most:Nat) (k:Nat) (q t:List Nat):Prop where
 len:n=k+1+t.length
 idx:Calls prog 173 #[.slice a n c] wr fun e w'=>e=.returned (.int .i64 ((k+1:Nat):Int))/\w'=wr
 val:Calls prog 174 #[.slice a (k+1) c,.int .i64 (most:Int)] wr fun e w'=>e=.returned (.tuple (encN A (Od.numB most q)))/\wr.grownBy w' none
 rest:Bytes w (.slice (subA a (k+1) c) (n-(k+1)) (c-(k+1))) t
theorem zIZ {A:Nat->Addr} {w wr:World} {a:Option Addr} {n c most x:Nat} {xs:List Nat} (hE:SFErrs w A) (hb:Bytes w (.slice a n c) (x :: xs)) (hw:w.grownBy wr none) (hn:n<=100000) (hm:most<=2147483800) :
  ∃ k q t,zKN A w wr a n c most k q t/\∀ f,Od.seqs (f+1) most (x :: xs)=Od.numB most q :: Od.seqs f 2147483647 t:=by
 obtain⟨h1,h2,h3,h4⟩:=Od.fst_facts (l:=x :: xs) (by simp);obtain⟨k,hk⟩:∃ k,Od.fst (x :: xs)=k+1:=⟨Od.fst (x :: xs)-1,by omega⟩
 have hbl:n=(x :: xs).length:=(hb.cap).1;have hbr:=hb.grown hw;refine⟨k,(x :: xs).take (k+1),(x :: xs).drop (k+1),⟨?_,?_,?_,?_⟩,fun f=>by rw[Od.seqs,hk]⟩
 ·rw[List.length_drop];omega
 ·have:=zEw _ _ wr hbr (by simp) (by omega);rw[hk]at this;exact this
 ·exact zEo A _ _ most wr (hE.grown hw) (Bytes.to hbr (k+1) (by omega)) (by rw[List.length_take];omega) (by rw[List.length_take];omega) hm
 ·exact Bytes.from hb (k+1) (by omega)
theorem zI3 (k n t:Nat) (hk:n=k+1+t) (hn:n<=100000):n-(k+1)=t/\((k+1:Nat):Int).toNat=k+1/\k+1<=n/\0<n/\t<n:=by
 refine⟨by omega,by omega,by omega,by omega,by omega⟩
attribute [local go_sem] Oper.semAt_some
theorem zEn (A:Nat->Addr) (v:Value) (b:List Nat) (src:List (Except Nat Int)) (bb:Nat) (w:World) (hE:SFErrs w A) (hbb:Boxed w bb 33 v) (hB:Bytes w v b) (hl:b.length<=100000) (hns:Od.seqs b.length 2147483727 b=src) :
  SeqP prog 172 #[.pointer (some ⟨bb,0,none⟩)] (encN A) (fun _=>False) (fun r=>r<w.heap.size) 0 src w:=by
 intro l J Jx W hC hJ hJx hY h0;have B1:Boxed W bb 33 v:=(hC.same bb hbb.lt).trans hbb;have c1:=B1.cell;have HB:=hid hB;have HEr:=hid hE;obtain⟨_,va,_,_,vc,hv,hvc,_⟩:=hB;subst hv;have HY:=hid hY;have HC:=hid hC;have H0:=hid h0;obtain⟨n,hn⟩:∃ n,n=b.length:=⟨_,rfl⟩
 rw[<-hn]at hvc c1 hl B1 hbb HB hns;have HN0:=hid hns;have HN:=hid hn;have HJ0:=hid hJ;clear hns hY hC h0 hn hbb B1 hE;refine(callsIn_wide (n:=5)).1 (callsIn_of_wp func172 rfl trivial ?_ rfl);simp only[ntmps172,List.size_toArray,List.length_cons,List.length_nil,Nat.reduceAdd,Nat.reduceSub,Array.replicate_succ,Array.replicate_zero,List.push_toArray,List.append_toArray,List.nil_append,List.cons_append]
 gi_wp2
 gi_loopw [3,4] (fun m r wr=>∃ (most n' c' f:Nat) (a':Option Addr) (rest:List Nat) (pre:List (Except Nat Int)),m=.int .i64 most/\most<=2147483800/\r=.slice a' n' c'/\n'=rest.length/\n'<=n/\n'<=f/\Bytes w (.slice a' n' c') rest/\src=pre++Od.seqs f most rest/\KeepsP (fun r=>r<w.heap.size) w wr/\W.heap.size<=wr.heap.size/\J pre wr) (fun _ r _=>(match r with | .slice _ n _=>n|_=>0:Nat))
 case atStart=>exact⟨2147483727,n,vc,n,va,b,[],rfl,by omega,rfl,HN.out,Nat.le_refl _,Nat.le_refl _,HB.out,HN0.out.symm,HC.out,Nat.le_refl _,H0.out⟩
 case round =>
  obtain⟨most,n',c',f,a',rest,pre,rfl,hmost,rfl,hn',hnn,hnf,hb,hqs,hk,hsz,hj⟩:=hrel;have HQs:=hid hqs;have HK:=hid hk;have HSz:=hid hsz;have HJ:=hid hj;have HBr:=hid hb;have hcap:n'<=c':=(HBr.out.cap).2;clear hqs hk hsz hj hb;cases rest with
  |nil =>
   have h00:n'=0:=hn';subst h00;have HS0:Hid (src=pre):=hid (by rw[HQs.out];cases f <;> simp[Od.seqs]);clear hn' HBr HQs hnf
   gi_wp2
   go_end0
   exact⟨⟨_,rfl⟩,.inl (by rw[HS0.out];exact HJ.out)⟩
  |cons x xs =>
   obtain⟨k,q,t,HO,hqq⟩:=zIZ (most:=most) HEr.out HBr.out (HK.out.below (Nat.le_refl _)) (by omega) hmost;obtain⟨g,rfl⟩:∃ g,f=g+1:=⟨f-1,by simp at hn';omega⟩
   obtain⟨X,hX⟩:∃ X,X=Od.numB most q:=⟨_,rfl⟩
   have HO5:=HO.val;rw[<-hX]at HO5;rw[hqq,<-hX]at HQs;obtain⟨ea,eb,hab⟩:=zG1 A X;rw[hab]at HO5;have HQq:Hid (src=(pre++[X])++Od.seqs g 2147483647 t):=hid (by rw[HQs.out];simp);have HOne:=hid HO;obtain⟨q0,q2,q3,q4,q5⟩:=zI3 k n' t.length HO.len (by omega);have HQ0:=hid q0;have HQ5:=hid q5;have HQg:Hid (n'-(k+1)<=g):=hid (by omega);have HIk:=hid HO.idx;have HNk:=hid HO5;have HR:Hid (∀ w5,wr.grownBy w5 none->∃ fn tmps assign body,(Instr.yield l #[ea,eb]).run prog w5=.ok (.round l fn tmps assign body) w5/\RoundIn Fence.wide 4 prog l fn tmps assign body w5 fun(e:Ending) W3=>∃ q:Bool,e=.returned (.bool q)/\KeepsP (fun r=>r<w.heap.size) w W3/\W.heap.size<=W3.heap.size/\(q=true->J (pre++[X]) W3)/\(q=false->∃ pr,pr <+: src/\Jx pr W3)):=hid (fun w5 h5=>by
    obtain⟨fn,tmps,assign,body,hy,hR⟩:=HY.out pre X w5 ⟨_,HQq.out.symm⟩ (HJ0.out _ _ _ none HJ.out h5 (fun r e=>by cases e)) (Nat.le_trans HSz.out h5.size);rw[hab]at hy;have HK5:KeepsP (fun r=>r<w.heap.size) w w5:=HK.out.trans (KeepsP.grown h5 (fun r hr=>⟨Nat.lt_of_lt_of_le hr HK.out.size,by simp⟩));refine⟨fn,tmps,assign,body,hy,(hR 4).mono ?_⟩;rintro e W3 (⟨rfl,h1,h2⟩|⟨rfl,h1,h2⟩)
    ·exact⟨true,rfl,HK5.trans (h2.mono (fun r hr=>.inl hr)),Nat.le_trans HSz.out (Nat.le_trans h5.size h2.size),(fun _=>h1),fun h=>by cases h⟩
    ·exact⟨false,rfl,HK5.trans (h2.mono (fun r hr=>.inl hr)),Nat.le_trans HSz.out (Nat.le_trans h5.size h2.size),(fun h=>by cases h),fun _=>⟨_,⟨_,HQq.out.symm⟩,h1⟩⟩)
   have hk1:((k+1:Nat):Int)=(k:Int)+1:=by omega
   clear HO hqq hn' HBr HQs HJ HY q0 q5 HK HSz HN HB HC H0 HN0 hJ hJx c1 hvc hX HO5 hab hnf HEr HJ0
   gi_wp2_with (first
    |(refine⟨trivial,?_⟩;gi_at_call 173;refine(callsIn_wide.2 HIk.out).mono ?_;rintro e w' ⟨rfl,hw'⟩;have hw2:=hw'.symm;subst hw2;clear hw')
    |(refine⟨trivial,?_⟩;gi_at_call 174;refine(callsIn_wide.2 HNk.out).mono ?_;rintro e w5 ⟨rfl,hg5⟩;obtain⟨fn,tmps,assign,body,hy,hR⟩:=HR.out _ hg5;have HR2:=hid hR;clear hR hg5)
    |(refine RoundIn.mono HR2.out ?_;rintro e W3 ⟨q,rfl,hk3,hs3,ht3,hf3⟩;have K3:=hid hk3;have S3:=hid hs3;have T3:=hid ht3;have F3:=hid hf3;clear hk3 hs3 ht3 hf3))
   ·have hqf:q=false:=by cases q <;> simp_all
    refine bodyPost_ret (results_none rfl _ _ _) rfl ?_;exact⟨⟨_,rfl⟩,.inr (F3.out hqf)⟩
   ·have hqt:q=true:=by cases q <;> simp_all
    have HRest:Bytes w (.slice (if c'=k+1 then a' else Option.map (fun x=>{ block:=x.block,off:=x.off+(k+1) }) a') (n'-(k+1)) (c'-(k+1))) t:=HOne.out.rest;refine⟨⟨2147483647,_,_,g,_,t,pre++[X],rfl,by omega,rfl,HQ0.out,by omega,HQg.out,HRest,HQq.out,K3.out,S3.out,T3.out hqt⟩,?_⟩
    show n'-(k+1)<n'
    omega
theorem zJp (n:Nat) (hn:n<=2147483800):((n:Int).tdiv 40=((n/40:Nat):Int))/\Od.firstOf n=min (n/40) 2:=by
 refine⟨?_,?_⟩
 ·rw[Int.tdiv_eq_ediv_of_nonneg (by omega)];rfl
 ·unfold Od.firstOf;split
  ·omega
  ·split <;> omega
theorem zHD (a:Option Addr) (n c:Nat) (w:World) :
  Calls prog 155 #[.slice a n c] w fun e w'=>e=.returned (.func (.func 172) #[] #[.pointer (some ⟨w.heap.size,0,none⟩)])/\w'=w.alloc (.cells #[.slice a n c] 33):=by
 have hmf:=zLK;go_enter func155,ntmps155
 go_wp2
 go_ret
 exact⟨rfl,rfl⟩
theorem zG8 (a:Addr) (k c n m:Nat):Whole0 (.slice (subA (some a) k c) n m):=by
 intro x y e;unfold subA at e;split at e <;> cases e
theorem enters43 (args:Array Value) (w:World):(callFunc 172 args).run prog w=.ok (.enter 172 args) w:=by
 simp[go_sem]
def zL4 (A:Nat->Addr) (w:World):Prop:=∀ (v:Value) (b:List Nat) (W:World),w.grownBy W none->Bytes W v b->b.length<=100000->Calls prog 122 #[v] W fun e w'=>W.grownBy w' none/\e=.returned (match Od.get b with
 |.ok l=>.tuple #[.string (strOf (Od.text l)),.nilIface]
 |.error k=>.tuple #[.string ⟨#[]⟩,errV A k])
theorem zEX (f s:Int) (r:List Int):Od.right (f :: s :: r.take 16)=Od.right (f :: s :: r):=by
 rcases Nat.lt_or_ge 16 r.length with h|h
 ·have h1:Od.right (f :: s :: r)=false:=by
   rw[<-Bool.not_eq_true];intro e;have:=((Od.right_iff _).1 e).1.2.1;simp at this;omega
  have h2:Od.right (f :: s :: r.take 16)=false:=by
   rw[<-Bool.not_eq_true];intro e;have:=((Od.right_iff _).1 e).1.2.1;simp[List.length_take]at this;omega
  rw[h1,h2]
 ·rw[List.take_of_length_le h]
theorem zHF {f most:Nat} {b ns:List Nat} {n:Nat} (h:Od.nums f most b=.ok (n :: ns)):n<=most:=by
 cases b with
 |nil=>cases f <;>(rw[Od.nums]at h;cases h)
 |cons c l =>
  cases f with
  |zero=>rw[Od.nums]at h;cases h
  |succ f =>
   rw[Od.nums]at h;split at h
   ·cases h
   ·split at h
    ·cases h
    ·split at h
     ·cases h
     ·rename_i h2
      split at h
      ·cases h
      ·have:=Except.ok.inj h;have:=(List.cons.inj this).1;omega
theorem zI1 {f most:Nat} {b:List Nat} (h0:0<b.length) (h:Od.nums f most b=.ok []):False:=by
 cases b with
 |nil=>simp at h0
 |cons c l =>
  cases f with
  |zero=>rw[Od.nums]at h;cases h
  |succ f =>
   rw[Od.nums]at h;split at h
   ·cases h
   ·split at h
    ·cases h
    ·split at h
     ·cases h
     ·split at h
      ·cases h
      ·cases Except.ok.inj h
theorem zKm (A:Nat->Addr) (w0:World) (hF0:Tab10 w0) (hE0:SFErrs w0 A):zL4 A w0:=by
 intro v b w hw hB hl;have hEw:=hE0.grown hw;obtain⟨_,a0,sb,so,c0,rfl,hc0,ha0,hcell⟩:=id hB;rcases Nat.eq_zero_or_pos b.length with hz|hb0
 ·have hbn:b=[]:=List.length_eq_zero_iff.1 hz;subst hbn;have eS:=hEw.short;clear hE0 hEw hF0 hcell ha0 hB;simp only[Od.get,Od.nums,List.length_nil];go_enter func122,ntmps122
  go_wp2
  go_quiet (fail)
  go_wp2
  go_ret2
  exact⟨zAd (zAa _ _) _,rfl⟩
 obtain⟨rfl,hsb⟩:=ha0 hb0;have HOB:=hid (zHD (some ⟨sb,so,none⟩) b.length c0 w);have hga:=World.grownBy_alloc w (.cells #[.slice (some ⟨sb,so,none⟩) b.length c0] 33) none;have HG:=zD3 A 172 #[.pointer (some ⟨w.heap.size,0,none⟩)] 0 _ (w.alloc (.cells #[.slice (some ⟨sb,so,none⟩) b.length c0] 33)) enters43
  (zEn A _ b _ w.heap.size _ (hEw.grown hga) (Boxed.new w _ _) (hB.grown hga) hl rfl)
 have hgat:=Od.seqs_nums b.length 2147483727 b (Nat.le_refl _);unfold Od.get;unfold zK2 at HG;rw[hgat]at HG;cases hn:Od.nums b.length 2147483727 b with
 |error k =>
  rw[hn]at HG;have HG2:Hid (Calls prog 154 #[.func (.func 172) #[] #[.pointer (some ⟨w.heap.size,0,none⟩)]] (w.alloc (.cells #[.slice (some ⟨sb,so,none⟩) b.length c0] 33)) fun e w' =>
    w.grownBy w' none/\e=.returned (.tuple #[.slice none 0 0,errV A k])):=hid (HG.mono (by
   rintro e w' ⟨h1,h2⟩;exact⟨zAb hga h1,h2⟩))
  obtain⟨m,hm⟩:∃ m,b.length=m+1:=⟨b.length-1,by omega⟩
  rw[hm]at HOB HG2;rw[hm];clear HG hgat hn hB hcell hF0 hE0 hw hEw hsb ha0 hb0 hl hc0 hga hm;go_enter func122,ntmps122
  go_wp2_with (first
   |(go_at_call 155;refine HOB.out.mono ?_;rintro e w1 ⟨rfl,rfl⟩)
   |(go_at_call 154;refine HG2.out.mono ?_;rintro e w2 ⟨hg2,rfl⟩;have HG3:=hid hg2;clear hg2))
  first
   |go_ret2
   |(go_quiet (fail);go_wp2;go_ret2)
  first
   |exact⟨HG3.out,rfl⟩
   |exact⟨zAd HG3.out _,rfl⟩
 |ok ns =>
  rw[hn]at HG;cases ns with
  |nil=>exact(zI1 hb0 hn).elim
  |cons n r =>
   have hnb:n<=2147483727:=zHF hn;obtain⟨R,hR⟩:∃ R:List Int,R=(r.map fun(m:Nat)=>(m:Int)).take 16:=⟨_,rfl⟩
   have hRl:R.length<=16:=by rw[hR,List.length_take];omega
   have HG2:Hid (Calls prog 154 #[.func (.func 172) #[] #[.pointer (some ⟨w.heap.size,0,none⟩)]] (w.alloc (.cells #[.slice (some ⟨sb,so,none⟩) b.length c0] 33)) fun e w' =>
     w.grownBy w' none/\∃ g o c,e=.returned (.tuple #[.slice (some ⟨g,o,none⟩) (R.length+1) c,.nilIface])/\w'.cell? ⟨g,o,none⟩=some (.int .i64 (n:Nat))/\R.length+1<=c/\Ints w' (.slice (some ⟨g,o,none⟩) (R.length+1) c) ((n:Int) :: R)):=hid (HG.mono (by
    rintro e w' ⟨h1,h2⟩;obtain⟨u,h3,h4,h5⟩:=h2;have htk:((n :: r).map fun(m:Nat)=>(m:Int)).take 17=(n:Int) :: R:=by rw[hR];rfl
    rw[htk]at h4;refine⟨zAb hga h1,?_⟩;have h4':=h4;obtain⟨a,g,o,c,rfl,hc,ha,hcl⟩:=h4';obtain⟨rfl,_⟩:=ha (by simp);have hc1:w'.cell? ⟨g,o,none⟩=some (.int .i64 (n:Nat)):=hcl 0 (by simp);simp only[List.length_cons]at *;exact⟨g,o,c,h3,hc1,hc,h4⟩))
   obtain⟨_,hmin⟩:=zJp n (by omega);obtain⟨f,hf⟩:∃ f,f=Od.firstOf n:=⟨_,rfl⟩
   obtain⟨s,hs⟩:∃ s,s=n-40*Od.firstOf n:=⟨_,rfl⟩
   have q1:min ((n:Int)/40) 2=(f:Int):=by omega
   have q2:(n:Int)-(f:Int)*40=(s:Int):=by omega
   have hrt:=zEX (f:Int) (s:Int) (r.map fun(m:Nat)=>(m:Int));rw[<-hR]at hrt;have HTx:Hid (∀ v W,w.grownBy W none->Ints W v ((f:Int) ::(s:Int) :: R)->Calls prog 156 #[v] W fun e w'=>e=.returned (match (if Od.right ((f:Int) ::(s:Int) :: r.map fun(m:Nat)=>(m:Int))=true then Except.ok ((f:Int) ::(s:Int) :: r.map fun(m:Nat)=>(m:Int))else .error 1:Except Nat (List Int))with
     |.ok l=>.tuple #[.string (strOf (Od.text l)),.nilIface]
     |.error k=>.tuple #[.string ⟨#[]⟩,errV A k])/\W.grownBy w' none):=hid (fun v W hW hI=>by
    have:=zIb A w0 hF0 hE0.rf v _ W (zAb hw hW) hI (by simp;omega);rw[hrt]at this;refine this.mono (fun e w' h=>⟨?_,h.1⟩);rw[h.2];by_cases hr:Od.right ((f:Int) ::(s:Int) :: r.map fun(m:Nat)=>(m:Int))=true
    ·rw[if_pos hr,if_pos hr];have:R=r.map fun(m:Nat)=>(m:Int):=by
      rw[hR];exact List.take_of_length_le (by have:=((Od.right_iff _).1 hr).1.2.1;simp at this ⊢;omega)
     rw[this]
    ·rw[if_neg hr,if_neg hr])
   have hs':n-40*f=s:=by rw[hf,<-hs]
   simp only[<-hf,hs'];obtain⟨X,hX⟩:∃ X:Value,X=(match (if Od.right ((f:Int) ::(s:Int) :: r.map fun(m:Nat)=>(m:Int))=true then Except.ok ((f:Int) ::(s:Int) :: r.map fun(m:Nat)=>(m:Int))else .error 1:Except Nat (List Int))with
     |.ok l=>.tuple #[.string (strOf (Od.text l)),.nilIface]
     |.error k=>.tuple #[.string ⟨#[]⟩,errV A k]):=⟨_,rfl⟩
   have hX2:∃ x y,X=.tuple #[x,y]:=by
    rw[hX];split
    ·exact⟨_,_,rfl⟩
    ·exact⟨_,_,rfl⟩
   rw[<-hX]at HTx ⊢;obtain⟨x,y,hxy⟩:=hX2;rw[hxy]at HTx ⊢;have HRl:=hid hRl;obtain⟨m,hm⟩:∃ m,b.length=m+1:=⟨b.length-1,by omega⟩
   rw[hm]at HOB HG2;rw[hm];clear HG hgat hn hB hcell hF0 hE0 hw hEw hsb ha0 hb0 hl hc0 hga hm hs' hf hs hR hRl hmin hX hxy hrt;go_enter func122,ntmps122
   go_wp2_with (first
    |(go_at_call 155;refine HOB.out.mono ?_;rintro e w1 ⟨rfl,rfl⟩)
    |(go_at_call 154;refine HG2.out.mono ?_;rintro e w2 ⟨hg2,g,o,c,rfl,c1,hc2,hi2⟩;have HG3:=hid hg2;have HI3:=hid hi2;have HI4:Hid (∀ W,w2.grownBy W none->Ints W (.slice (subA (some ⟨g,o,none⟩) 1 c) R.length (c-1)) R):=hid (fun W hW=>Ints.from (hi2.grown hW) 1 (by omega));clear hg2 hi2)
    |(at_builtin;refine zDg (by rfl) (.tmp 34) (.tmp 36) 51 (by rfl) w.heap.size 3 (.int .i64 0) 8 underlying51 (by kernel_rfl) rfl (by decide) _ 2 (cellsI [(f:Int),(s:Int)]) (by rfl) (ownsRow_lit (alloc_at w2 _) HG3.out.size (by simp)) _ R (by rfl) (HI4.out _ (World.grownBy_alloc _ _ _)) (zG8 _ _ _ _ _) (by have:=HRl.out;omega) (by have:=HG3.out.size;rw[zAe];omega) ?_;intro v' w3 ho3 hg3;have HG4:Hid (w.grownBy w3 none):=hid (zAR (zAc HG3.out _) (ownsRow_lit (alloc_at w2 _) HG3.out.size (by simp)) (Nat.le_refl _) hg3);have HI5:Hid (Ints w3 v' ((f:Int) ::(s:Int) :: R)):=hid (Ints.own (l:=(f:Int) ::(s:Int) :: R) ho3);clear ho3 hg3)
    |(go_at_call 156;refine(HTx.out _ _ HG4.out HI5.out).mono ?_;rintro e w4 ⟨rfl,hg4⟩;have HG5:=hid (zAb HG4.out hg4);clear hg4))
   go_ret2
   exact⟨HG5.out,rfl⟩
end Go.Proofs.YtijkaknggdaajaaGreatDoor
