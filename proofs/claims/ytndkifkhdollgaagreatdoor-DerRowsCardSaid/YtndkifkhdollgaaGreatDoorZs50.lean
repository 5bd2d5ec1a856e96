import Derived.Test.YtndkifkhdollgaaGreatDoorZs12
import Derived.Test.YtndkifkhdollgaaGreatDoorZs13
import Derived.Test.YtndkifkhdollgaaGreatDoorZs24
import Derived.Test.YtndkifkhdollgaaGreatDoorZs34
import Derived.Test.YtndkifkhdollgaaGreatDoorZs35
import Derived.Test.YtndkifkhdollgaaGreatDoorZs38
import Derived.Test.YtndkifkhdollgaaGreatDoorZs40
import Derived.Test.YtndkifkhdollgaaGreatDoorZs43
import Derived.Test.YtndkifkhdollgaaGreatDoorZs46
import Derived.Test.YtndkifkhdollgaaGreatDoorZs47
import Derived.Test.YtndkifkhdollgaaGreatDoorZs48
import Derived.Test.YtndkifkhdollgaaGreatDoorZs49
set_option linter.unusedVariables false
set_option linter.unusedSimpArgs false
set_option maxRecDepth 100000
set_option maxHeartbeats 8000000
namespace Go.Proofs.YtndkifkhdollgaaGreatDoor
open Lib (hid)
open Go.RowKit
theorem lwrite_any {A:Nat→Addr} {W0 w:World} {F:Nat→Prop} {b:Nat} {s:De.St} (h:PrW A W0 F b s w) (hE:AllErrs W0 A) (hl:Lim 1000 s) (n:Int) (hn:De.I64 n) :
  Calls Tryz.prog 24 #[.pointer (some ⟨b,0,none⟩),.int .i64 n] w fun e w'=>PrPost A W0 F b w w' (De.step s (vI n)) e:=by
 have HC:=hid (prInt_e h hE hl (vI n) rfl hn)
 obtain ⟨T,hT⟩:∃ T,T=De.step s (vI n):=⟨_,rfl⟩
 rw[←hT] at HC ⊢
 have HC2:Hid (Calls Tryz.prog 49 #[.pointer (some ⟨b,0,none⟩),.int .i64 n] w fun e w'=>PrPost A W0 F b w w' T e):=HC
 clear h hE hl hT HC
 go_enter Tryz.func24,Tryz.ntmps24
 go_wp2_with (go_at_call 49;refine HC2.out.mono ?_;rintro e w3 ⟨rfl,k1,k2⟩;have K1:=hid k1;have K2:=hid k2;clear k1 k2)
 go_returns
 exact ⟨rfl,K1.out,K2.out⟩
theorem raInt_e {A:Nat→Addr} {W0 w:World} {F:Nat→Prop} {b:Nat} {s:De.Rd} (h:PrR A W0 F b s w) (hA:AllErrs W0 A) (tag least most:Int) :
  Calls Tryz.prog 54 #[.pointer (some ⟨b,0,none⟩),.int .i64 least,.int .i64 most] w fun e w'=>∃ v,e=.returned v∧AskPost A W0 F b s 3 tag least most w w' v :=
 (rrInt_any h hA least most).mono (fun e w' ⟨v,he,hp⟩=>by
  subst he
  exact ⟨v,rfl,ask_out h (by decide) (by decide) (by decide) (tells_num w 3 least most (.inl rfl)) hp (ans_none w 3 w' hp.1.size)⟩)
theorem lnumber_any {A:Nat→Addr} {W0 w:World} {F:Nat→Prop} {b:Nat} {s:De.Rd} (h:PrR A W0 F b s w) (hE:AllErrs W0 A) :
  Calls Tryz.prog 30 #[.pointer (some ⟨b,0,none⟩)] w fun e w'=>e=.returned (.int .i64 (getI s).2)∧Upto F w w'∧PrR A W0 (Ext F w w') b (getI s).1 w':=by
 have HC:Hid (Calls Tryz.prog 54 #[.pointer (some ⟨b,0,none⟩),.int .i64 0,.int .i64 1000] w fun e w'=>e=.returned (.int .i64 (getI s).2)∧Upto F w w'∧PrR A W0 (Ext F w w') b (getI s).1 w'):=hid ((raInt_e h hE 0 0 1000).mono (fun e w' ⟨v,he,hp⟩=>by
  obtain ⟨h1,_⟩:=ans_num hp.ans hp.one (by decide)
  exact ⟨by rw[he,h1];rfl,hp.upto,hp.rd⟩))
 obtain ⟨T,hT⟩:∃ T,T=(getI s).1:=⟨_,rfl⟩
 obtain ⟨V,hV⟩:∃ V,V=(getI s).2:=⟨_,rfl⟩
 rw[←hT,←hV] at HC ⊢
 clear h hE hT hV
 go_enter Tryz.func30,Tryz.ntmps30
 go_wp2_with (go_at_call 54;refine HC.out.mono ?_;rintro e w3 ⟨rfl,k1,k2⟩;have K1:=hid k1;have K2:=hid k2;clear k1 k2)
 go_ret
 exact ⟨rfl,K1.out,K2.out⟩
theorem valV3 (w:World) (k n:Int) (x:De.Val) (hk:x.kind=k) (hn:x.n=n) (hi:x.is=false) (hb:x.b=[]) (ht:x.t=[]):ValV w (.agg #[.int .i64 k,.int .i64 n,.bool false,.slice none 0 0,.string ⟨#[]⟩]) x :=
 ⟨.slice none 0 0,⟨#[]⟩,by rw[hk,hn,hi],by rw[hb];exact ⟨by simp,none,0,0,0,rfl,Nat.le_refl _,fun h=>absurd h (Nat.lt_irrefl _),fun j hj=>absurd hj (Nat.not_lt_zero _)⟩,fun _ _ e=>by cases e;exact ⟨rfl,rfl⟩,by rw[ht];rfl,by decide⟩
theorem ints_upto {F:Nat→Prop} {w w1 w2:World} {v:Value} {l:List Int} (h:Ints w v l) (hg:w.grownBy w1 none) (hu:Upto F w1 w2) (hF:∀ k,F k→w.heap.size≤k):Ints w2 v l:=by
 obtain ⟨a,sb,so,c,h1,h2,h3,h4⟩:=h
 have s1:=hg.size
 have s2:=hu.size
 refine ⟨a,sb,so,c,h1,h2,fun hp=>⟨(h3 hp).1,by have:=(h3 hp).2;omega⟩,fun j hj=>?_⟩
 have hsb:=(h3 (by omega)).2
 rw[World.cell?_of_block (show w2.heap[sb]?=w.heap[sb]? from (hu.block sb (by omega) (fun hf=>by have:=hF sb hf;omega)).trans (hg.block sb hsb (by simp)))]
 exact h4 j hj
theorem own_empty1 {w:World} {base:Nat} (hb:base≤w.heap.size) (e:TypeId):(w.alloc (.cells #[] e)).ownsRow base e 1 (.slice (some ⟨w.heap.size,0,none⟩) 0 0) 0 [] :=
 ⟨rfl,.inr ⟨w.heap.size,0,#[],rfl,hb,alloc_at _ _,Nat.le_refl _,by unfold maxLen;omega,rfl,rfl⟩⟩
structure Ro3 (A:Nat→Addr) (W0:World) (F1 F2:Nat→Prop) (b1 b2:Nat) (sE s':De.Rd) (gv:Value) (gl:List Int) (n:Nat) (xs:List Value) (r:Value) (w:World):Prop where
 r1:PrR A W0 F1 b1 sE w
 r2:RefR W0 F2 b2 s' w
 ap:Apart F1 F2
 got:Sup F1 w (fun W=>Ints W gv gl)
 row:w.ownsRow W0.heap.size 3 1 r n xs
 off:∀ k,r.ownBlock=some k→¬ F1 k∧¬ F2 k
section
variable {A:Nat→Addr} {W0 w w2 w3:World} {F1 F2:Nat→Prop} {b1 b2 n m:Nat} {sE s' s2:De.Rd} {gv r r2:Value} {gl:List Int} {xs ys:List Value} {e:Ending} {y:De.Val}
theorem Ro3.still (h:Ro3 A W0 F1 F2 b1 b2 sE s' gv gl n xs r w) (hg:w.grownBy w2 none):Ro3 A W0 F1 F2 b1 b2 sE s' gv gl n xs r w2 :=
 ⟨h.r1.still hg,h.r2.still hg,h.ap,h.got.grown hg,own_upto h.row (Upto.of_grown (fun _=>False) hg) (fun _ _ h=>h),h.off⟩
theorem Ro3.did (h:Ro3 A W0 F1 F2 b1 b2 sE s' gv gl n xs r w) (hd:DoO W0 F2 b2 (s2,y) w w2 e):Ro3 A W0 F1 (Ext F2 w w2) b1 b2 sE s2 gv gl n xs r w2:=by
 have hs:=hd.upto.size
 refine ⟨h.r1.other (G:=F2) (G':=Ext F2 w w2) (fun k hk=>(h.r2.own k hk).1) ⟨hd.upto,fun k hk hf=>by
   rcases hf with hf|hf
   ·exact hf
   ·omega⟩ h.ap.symm,hd.rd,fun k hk hf=>?_,h.got.upto hd.upto (fun k hk hf=>h.ap k hk hf),own_upto h.row hd.upto (fun k hk=>(h.off k hk).2),fun k hk=>⟨(h.off k hk).1,fun hf=>?_⟩⟩
 ·rcases hf with hf|hf
  ·exact h.ap k hk hf
  ·have:=(h.r1.own k hk).2;omega
 ·rcases hf with hf|hf
  ·exact (h.off k hk).2 hf
  ·have:=(h.row.lt k hk).2;omega
theorem Ro3.more (h:Ro3 A W0 F1 F2 b1 b2 sE s' gv gl n xs r w) (h5:w.grownBy w2 none) (ho:w3.ownsRow W0.heap.size 3 1 r2 m ys) (hg:w2.grownBy w3 r.ownBlock) (hbk:r2.ownBlock=r.ownBlock∨r2.ownBlock=some w2.heap.size):Ro3 A W0 F1 F2 b1 b2 sE s' gv gl m ys r2 w3:=by
 have h2:=h.still h5
 have hub:Upto (fun k=>r.ownBlock=some k) w2 w3:=Upto.of_row hg (fun k hk=>.inl hk)
 have hlow:∀ k,r.ownBlock=some k→W0.heap.size≤k:=fun k hk=>(h2.row.lt k hk).1
 refine ⟨h2.r1.other (G:=fun k=>r.ownBlock=some k) (G':=fun k=>r.ownBlock=some k) hlow ⟨hub,fun _ _ h=>h⟩ (fun k hk hf=>(h2.off k hk).1 hf),
  h2.r2.other (G:=fun k=>r.ownBlock=some k) (G':=fun k=>r.ownBlock=some k) hlow ⟨hub,fun _ _ h=>h⟩ (fun k hk hf=>(h2.off k hk).2 hf),h2.ap,h2.got.upto hub (fun k hk hf=>(h2.off k hf).1 hk),ho,fun k hk=>?_⟩
 rcases hbk with hbk|hbk
 ·exact h2.off k (by rw[←hbk,hk])
 ·rw[hk] at hbk
  have e:=Option.some.inj hbk
  exact ⟨fun hf=>by have:=(h2.r1.own k hf).2;omega,fun hf=>by have:=(h2.r2.own k hf).2;omega⟩
theorem Ro3.cell (h:Ro3 A W0 F1 F2 b1 b2 sE s' gv gl n xs r w):w.cell? ⟨b2,1,none⟩=some (.int .i64 (s'.e:Nat)):=by
 obtain ⟨lv,h3,_⟩:=h.r2.body
 exact cell_blk h3 1 rfl
end
theorem Ro3.first {A:Nat→Addr} {W0 w w2:World} {F1 F2:Nat→Prop} {b1 b2:Nat} {s sE:De.Rd} {gv:Value} {gl:List Int} (h1:PrR A W0 F1 b1 s w) (h2:RefR W0 F2 b2 s w) (ha:Apart F1 F2) (hu:Upto F1 w w2) (hr:PrR A W0 (Ext F1 w w2) b1 sE w2) (hg:Sup (fun k=>w.heap.size≤k∧k<w2.heap.size) w2 (fun W=>Ints W gv gl)) :
  Ro3 A W0 (Ext F1 w w2) F2 b1 b2 sE s gv gl 0 (cellsI []) (.slice none 0 0) w2:=by
 have hs:=hu.size
 refine ⟨hr,h2.other (G:=F1) (G':=F1) (fun k hk=>(h1.own k hk).1) ⟨hu,fun _ _ h=>h⟩ ha,fun k hk hf=>?_,hg.mono (fun k hk=>.inr hk) (fun k hk=>?_),⟨rfl,.inl ⟨rfl,rfl⟩⟩,by simp[Value.ownBlock]⟩
 ·rcases hk with hk|hk
  ·exact ha k hk hf
  ·have:=(h2.own k hf).2;omega
 ·rcases hk with hk|hk
  ·have:=(h1.own k hk).2;omega
  ·exact hk.2
theorem Ro3.told {A:Nat→Addr} {W0 w:World} {F1 F2:Nat→Prop} {b1 b2:Nat} {s sE:De.Rd} {gv:Value} {gl:List Int} (h:Ro3 A W0 F1 F2 b1 b2 sE s gv gl 0 (cellsI []) (.slice none 0 0) w):Ro3 A W0 F1 F2 b1 b2 sE s gv gl 0 (cellsI []) (.slice (some ⟨w.heap.size,0,none⟩) 0 0) (w.alloc (.cells #[] 3)) :=
 Ro3.more (w2:=w) h (grown_refl _ _) (own_empty1 h.r1.base.size _) (World.grownBy_alloc _ _ _) (.inr rfl)
theorem numQ {A:Nat→Addr} {k:Nat} (hk:k≤28) {w:World} (hA:AllErrs w A):Calls Tryz.prog 16 #[errOf A k] w fun e w'=>∃ v,e=.returned v∧w.grownBy w' none∧isV (.int .i64 (k:Nat)) v w':=by
 refine (num_of A k hk w hA).mono ?_
 rintro e w' ⟨rfl,hg⟩
 exact ⟨_,rfl,hg,rfl⟩
theorem rq_field (n:Int) (y2 y3 y4:Value) (w:World):(Instr.field 41 (.agg #[.int .i64 0,.int .i64 n,y2,y3,y4]) 1).run Tryz.prog w=.ok (.int .i64 n) w:=by kernel_rfl
def DocW (W0:World) (b:Nat) (s:De.St) (w:World):Prop:=∃ F,RefW W0 F b s w
theorem DocW.did {W0 w:World} {b m:Nat} {s:De.St} (h:DocW W0 b s w) (hl:Lim m s) (hm:m≤1000) (v:Value) (x:De.Val) (hv:ValV w v x) (hx:x.b.length≤1000000) :
  Calls Tryz.prog 27 #[.pointer (some ⟨b,0,none⟩),v] w fun e w'=>e=.returned (.tuple #[])∧DocW W0 b (De.step s x) w':=by
 obtain ⟨F,h⟩:=h
 exact (refDo_any h hl hm v x hv hx).mono (fun e w' hp=>⟨hp.1,_,hp.2.2⟩)
theorem DocW.base {W0 w:World} {b:Nat} {s:De.St} (h:DocW W0 b s w):W0.grownBy w none:=by
 obtain ⟨F,h⟩:=h
 exact h.base
theorem rows_read (A:Nat→Addr) (W0:World) (a:Option Addr) (c:Nat) (L:List Nat) (hB:Bytes W0 (.slice a L.length c) L) (h0:Whole0 (.slice a L.length c)) (hl:L.length≤1000) (W:World) (hW0:W0.grownBy W none) :
  Calls Tryz.prog 11 #[.slice a L.length c] W fun e w'=>∃ b,e=.returned (.pointer (some ⟨b,0,none⟩))∧W.heap.size≤b∧W.grownBy w' none∧RefR W0 (Ext (fun _=>False) W w') b (De.start L) w':=by
 refine refRead_any _ L hW0 (fun k hk=>hk.elim) ?_ (by omega)
 refine ((bytes_sup (F:=Or0 W0 (fun _=>False)) (hB.grown hW0) (fun k hk=>?_) (fun h k hk=>?_)).map (fun X hX=>⟨hX,h0⟩))
 ·rcases hk with hk|hk
  ·exact hk.elim
  ·exact Nat.lt_of_lt_of_le hk hW0.size
 ·right
  obtain ⟨_,a,sb,so,c,e,_,h3,_⟩:=hB
  obtain ⟨e4,h4⟩:=h3 h
  obtain ⟨a',n',c',e5,rfl⟩:=hk
  rw[e5] at e
  simp only[Value.slice.injEq] at e
  rw[e4] at e
  have:=Option.some.inj e.1
  rw[this];exact h4
theorem derRows_long (A:Nat→Addr) (va:Option Addr) (n vc:Nat) (tag most:Int) (w:World) (hA:AllErrs w A) (hlong:60<n∨most<0) :
  Calls Tryz.prog 4 #[.slice va n vc,.int .i64 tag,.int .i64 most] w fun e w'=>e=.returned (.bool true)∧w.grownBy w' none:=by
 have HAl:=hid (alive8_e A w hA)
 clear hA
 by_cases h1:60<n
 ·have hn:(60:Int)<(n:Int):=by omega
  clear hlong
  go_enter Tryz.func4,Tryz.ntmps4
  go_wp2_with (go_at_call 8;refine HAl.out.mono ?_;rintro e w1 ⟨rfl,hg1⟩;have HG1:=hid hg1;clear hg1)
  go_ret
  exact ⟨rfl,HG1.out⟩
 ·have hn:¬ (60:Int)<(n:Int):=by omega
  have hm:most<0:=by omega
  clear hlong
  go_enter Tryz.func4,Tryz.ntmps4
  go_wp2_with (go_at_call 8;refine HAl.out.mono ?_;rintro e w1 ⟨rfl,hg1⟩;have HG1:=hid hg1;clear hg1)
  go_ret
  exact ⟨rfl,HG1.out⟩
theorem rows_call {A:Nat→Addr} (w1:World) (va:Option Addr) (n vc:Nat) (xs:List Int) (tag:Int) (hE:AllErrs w1 A) (hI:Ints w1 (.slice va n vc) xs) (hn:xs.length=n) (h60:n≤60) (hi:∀ x∈xs,De.I64 x) :
  Calls Tryz.prog 23 #[.pointer (some ⟨w1.heap.size,0,none⟩),.int .i64 tag,.slice va n vc,.func (.func 24) #[] #[]] (w1.alloc (.cells #[.slice none 0 0,.slice none 0 0,.nilIface] 50)) fun e w'=>e=.returned (.tuple #[])∧∃ F,PrW A w1 F w1.heap.size (De.step (stI tag xs n) vC) w':=by
 have h0:PrW A w1 (fun k=>k=w1.heap.size) w1.heap.size De.St.zero (w1.alloc (.cells #[.slice none 0 0,.slice none 0 0,.nilIface] 50)):=PrW.new (grown_refl _ _)
 refine (prRows_int h0 hE tag xs va n vc hn (by omega) (fun W hu=>ints_upto hI (World.grownBy_alloc _ _ _) hu (fun k hk=>by omega)) 24 #[] (stI tag xs) (fun _ _=>by simp[go_sem]) ?_ (fun j F' W hj hW=>?_) (fun F' W hW=>?_)).mono (fun e w' hp=>⟨hp.1,_,hp.2.2⟩)
 ·rw[stI_zero,if_pos (by rfl)];rfl
 ·have hlim:=(stI_lim tag xs j (by omega)).mono (show j+1≤1000 by omega)
  rw[stI_succ (by omega)]
  refine lwrite_any hW hE hlim _ (hi _ ?_)
  rw[List.getD_eq_getElem?_getD,List.getElem?_eq_getElem (by omega)]
  exact List.getElem_mem _
 ·exact prClose_any hW hE ((stI_lim tag xs n (by omega)).mono (by omega)) (fun p hp=>((stI_good tag xs n (by omega)).op p hp).1) vC rfl
theorem derRows_bad (A:Nat→Addr) (va:Option Addr) (n vc:Nat) (xs:List Int) (tag:Int) (M:Nat) (w:World) (hA:AllErrs w A) (hI:Ints w (.slice va n vc) xs) (hn:xs.length=n) (h60:n≤60) (hi:∀ x∈xs,De.I64 x) (hmade:Tl.made tag=false) :
  Calls Tryz.prog 4 #[.slice va n vc,.int .i64 tag,.int .i64 M] w fun e w'=>e=.returned (.bool true)∧w.grownBy w' none:=by
 have HAl:=hid (alive8_e A w hA)
 have HRo:=hid (fun W (hW:w.grownBy W none)=>rows_call W va n vc xs tag (hA.grown hW) (hI.grown hW) hn h60 hi)
 have HDn:Hid (∀ W0 W,w.grownBy W0 none→(∃ F,PrW A W0 F W0.heap.size (De.step (stI tag xs n) vC) W)→Calls Tryz.prog 25 #[.pointer (some ⟨W0.heap.size,0,none⟩)] W fun e w'=>e=.returned (.tuple #[.slice none 0 0,errV A 5])∧W0.grownBy w' none):=hid (fun W0 W hW0 ⟨F,h⟩=>(prDone_any h (hA.grown hW0) ((stI_lim tag xs n (by omega)).step.mono (by omega))).mono (fun e w' hp=>by
  rw[←hn,done_bad hmade] at hp
  exact ⟨hp.2,grown_trans h.base hp.1⟩))
 have HMd:Hid (∀ W,Calls Tryz.prog 26 #[.int .i64 tag] W fun e w'=>e=.returned (.bool false)∧w'=W):=hid (fun W=>by have:=refMade_any tag W;rw[hmade] at this;exact this)
 have HNu:Hid (∀ W,w.grownBy W none→Calls Tryz.prog 16 #[errV A 5] W fun e w'=>e=.returned (.int .i64 5)∧W.grownBy w' none):=hid (fun W hW=>num_of A 5 (by decide) W (hA.grown hW))
 have hn1:¬ (60:Int)<(n:Int):=by omega
 have hm1:¬ (M:Int)<0:=by omega
 clear hA hI hn h60 hi hmade
 go_enter Tryz.func4,Tryz.ntmps4
 go_wp2_with (first
  |(go_at_call 8;refine HAl.out.mono ?_;rintro e w1 ⟨rfl,hg1⟩;have HG1:=hid hg1;clear hg1)
  |(go_at_call 23;refine (HRo.out _ HG1.out).mono ?_;rintro e w2 ⟨rfl,h2⟩;have H2:=hid h2;clear h2)
  |(go_at_call 25;refine (HDn.out _ _ HG1.out H2.out).mono ?_;rintro e w3 ⟨rfl,hg3⟩;have HG3:=hid (grown_trans HG1.out hg3);clear hg3)
  |(go_at_call 26;refine (HMd.out _).mono ?_;rintro e w4 ⟨rfl,rfl⟩)
  |(go_at_call 16;refine (HNu.out _ HG3.out).mono ?_;rintro e w5 ⟨rfl,hg5⟩;have HG5:=hid (grown_trans HG3.out hg5);clear hg5))
 go_ret
 exact ⟨rfl,HG5.out⟩
theorem derRows_main (A:Nat→Addr) (va:Option Addr) (n vc:Nat) (xs:List Int) (tag:Int) (M:Nat) (w:World) (hA:AllErrs w A) (hI:Ints w (.slice va n vc) xs) (hn:xs.length=n) (h60:n≤60) (hi:∀ x∈xs,De.I64 x) (hmade:Tl.made tag=true) :
  Calls Tryz.prog 4 #[.slice va n vc,.int .i64 tag,.int .i64 M] w fun e w'=>e=.returned (.bool true)∧w.grownBy w' none:=by
 obtain ⟨L,hL,hL1000⟩:=row_done hmade hi (show xs.length≤60 by omega)
 rw[hn] at hL
 have HAl:=hid (alive8_e A w hA)
 have HA:=hid hA
 have HL:=hid hL1000
 have HRo:=hid (fun W (hW:w.grownBy W none)=>rows_call W va n vc xs tag (hA.grown hW) (hI.grown hW) hn h60 hi)
 obtain ⟨N,hN⟩:∃ N,N=L.length:=⟨_,rfl⟩
 have HN:=hid hN
 have HDn:Hid (∀ W0 W,w.grownBy W0 none→(∃ F,PrW A W0 F W0.heap.size (De.step (stI tag xs n) vC) W)→Calls Tryz.prog 25 #[.pointer (some ⟨W0.heap.size,0,none⟩)] W fun e w'=>W0.grownBy w' none∧∃ a c,e=.returned (.tuple #[.slice a N c,.nilIface])∧Bytes w' (.slice a N c) L∧Whole0 (.slice a N c)):=hid (fun W0 W hW0 ⟨F,h⟩=>(prDone_any h (hA.grown hW0) ((stI_lim tag xs n (by omega)).step.mono (by omega))).mono (fun e w' hp=>by
  rw[hL] at hp
  rw[hN]
  exact ⟨grown_trans h.base hp.1,hp.2⟩))
 have HMd:Hid (∀ W,Calls Tryz.prog 26 #[.int .i64 tag] W fun e w'=>e=.returned (.bool true)∧w'=W):=hid (fun W=>by have:=refMade_any tag W;rw[hmade] at this;exact this)
 have HD0:Hid (∀ W0,Calls Tryz.prog 27 #[.pointer (some ⟨W0.heap.size,0,none⟩),.agg #[.int .i64 1,.int .i64 tag,.bool false,.slice none 0 0,.string ⟨#[]⟩]] (W0.alloc (.cells #[.slice none 0 0,.slice none 0 0,.int .i64 0] 59)) fun e w'=>e=.returned (.tuple #[])∧DocW W0 W0.heap.size (stI tag xs 0) w'):=hid (fun W0=>by
  rw[stI_zero]
  exact DocW.did (m:=0) ⟨_,RefW.new (grown_refl _ _)⟩ Lim.zero (by omega) _ (vO tag) (valV3 _ _ _ _ rfl rfl rfl rfl rfl) (by simp[vO,De.none0]))
 have HD3:Hid (∀ W0 b j W,j<n→DocW W0 b (stI tag xs j) W→Calls Tryz.prog 27 #[.pointer (some ⟨b,0,none⟩),.agg #[.int .i64 3,.int .i64 (xs.getD j 0),.bool false,.slice none 0 0,.string ⟨#[]⟩]] W fun e w'=>e=.returned (.tuple #[])∧DocW W0 b (stI tag xs (j+1)) w'):=hid (fun W0 b j W hj hW=>by
  rw[stI_succ (by omega)]
  exact hW.did (stI_lim tag xs j (by omega)) (by omega) _ (vI (xs.getD j 0)) (valV3 _ _ _ _ rfl rfl rfl rfl rfl) (by simp[vI,De.none0]))
 have HD2:Hid (∀ W0 b W,DocW W0 b (stI tag xs n) W→Calls Tryz.prog 27 #[.pointer (some ⟨b,0,none⟩),.agg #[.int .i64 2,.int .i64 0,.bool false,.slice none 0 0,.string ⟨#[]⟩]] W fun e w'=>e=.returned (.tuple #[])∧DocW W0 b (De.step (stI tag xs n) vC) w'):=hid (fun W0 b W hW=>hW.did (stI_lim tag xs n (by omega)) (by omega) _ vC (valV3 _ _ _ _ rfl rfl rfl rfl rfl) (by simp[vC,De.none0]))
 have HDD:Hid (∀ W0 b W,DocW W0 b (De.step (stI tag xs n) vC) W→Calls Tryz.prog 28 #[.pointer (some ⟨b,0,none⟩)] W fun e w'=>W0.grownBy w' none∧∃ u,e=.returned (.tuple #[u,.int .i64 0])∧((∀ x∈L,x<256)→Bytes w' u L)):=hid (fun W0 b W ⟨F,h⟩=>(refDone_any h ((stI_lim tag xs n (by omega)).step) (by omega)).mono (fun e w' hp=>by
  obtain ⟨hg,hp⟩:=hp
  rw[hL] at hp
  obtain ⟨u,h1,h2⟩:=hp
  exact ⟨grown_trans h.base hg,u,h1,fun hlt=>Bytes.own h2.own hlt⟩))
 have HRd:Hid (∀ W0 a c,w.grownBy W0 none→Bytes W0 (.slice a N c) L→Whole0 (.slice a N c)→Calls Tryz.prog 10 #[.slice a N c] W0 fun e w'=>∃ b,e=.returned (.pointer (some ⟨b,0,none⟩))∧W0.grownBy w' none∧PrR A W0 (fun k=>W0.heap.size≤k∧k<w'.heap.size) b (De.start L) w'):=hid (fun W0 a c hW hb h0=>by
  rw[hN] at hb h0 ⊢
  exact (rrRead_any A a c L W0 W0 (grown_refl _ _) hb h0 (by omega) (hA.grown hW)).mono (fun e w' ⟨b,h1,_,h3,h4⟩=>⟨b,h1,h3,h4⟩))
 have HRf:Hid (∀ W0 a c W,W0.grownBy W none→Bytes W0 (.slice a N c) L→Whole0 (.slice a N c)→Calls Tryz.prog 11 #[.slice a N c] W fun e w'=>∃ b,e=.returned (.pointer (some ⟨b,0,none⟩))∧W.grownBy w' none∧RefR W0 (Ext (fun _=>False) W w') b (De.start L) w'):=hid (fun W0 a c W hW hb h0=>by
  rw[hN] at hb h0 ⊢
  exact (rows_read A W0 a c L hb h0 hL1000 W hW).mono (fun e w' ⟨b,h1,_,h3,h4⟩=>⟨b,h1,h3,h4⟩))
 obtain ⟨sE,hsE⟩:∃ sE,sE=(rowEnd getI (De.start L) tag M).1:=⟨_,rfl⟩
 obtain ⟨gl,hgl⟩:∃ gl,gl=(rowEnd getI (De.start L) tag M).2:=⟨_,rfl⟩
 obtain ⟨s1,hs1⟩:∃ s1,s1=(De.enter (De.start L) tag).1:=⟨_,rfl⟩
 have HS1:Hid (LeftI 0 s1):=hid (by rw[hs1];exact enter_left hL1000 tag)
 have HRw:Hid (∀ W0 F1 F2 b1 b2 W,w.grownBy W0 none→PrR A W0 F1 b1 (De.start L) W→RefR W0 F2 b2 (De.start L) W→Apart F1 F2→Calls Tryz.prog 29 #[.pointer (some ⟨b1,0,none⟩),.int .i64 tag,.int .i64 M,.func (.func 30) #[] #[]] W fun e w'=>∃ a c F',e=.returned (.slice a gl.length c)∧Ro3 A W0 F' F2 b1 b2 sE (De.start L) (.slice a gl.length c) gl 0 (cellsI []) (.slice none 0 0) w'):=hid (fun W0 F1 F2 b1 b2 W hW0 h1 h2 ha=>by
  rw[hsE,hgl]
  refine (prRow_int h1 (hA.grown hW0) tag M 30 #[] getI LeftI (fun _ _=>by simp[go_sem]) (enter_left hL1000 tag) (fun j s' h hm _=>getI_left h hm) (fun j s' h=>by have:=h.le;omega) (fun j F' s' W' _ _ h=>lnumber_any h (hA.grown hW0))).mono (fun e w' hp=>?_)
  obtain ⟨a,c,k1,k2,k3,k4⟩:=hp
  exact ⟨a,c,_,k1,Ro3.first h1 h2 ha k2 k3 k4⟩)
 have HQ0:Hid (∀ W0 F1 F2 b1 b2 gv W,Ro3 A W0 F1 F2 b1 b2 sE (De.start L) gv gl 0 (cellsI []) (.slice none 0 0) W→Calls Tryz.prog 21 #[.pointer (some ⟨b2,0,none⟩),.agg #[.int .i64 1,.int .i64 tag,.int .i64 0,.int .i64 0]] W fun e w'=>∃ v,e=.returned v∧∃ F2,Ro3 A W0 F1 F2 b1 b2 sE s1 gv gl 0 (cellsI []) (.slice none 0 0) w'):=hid (fun W0 F1 F2 b1 b2 gv W h=>(rdDo_any h.r2 1 tag 0 0 (by show [].length≤1000;simp) (by show L.length≤1000;exact hL1000)).mono (fun e w' hp=>by
  obtain ⟨a,c,S,he,_⟩:=hp.ans
  refine ⟨_,he,Ext F2 W w',?_⟩
  have hq:=h.did (s2:=(De.ask (De.start L) 1 tag 0 0).1) (y:=(De.ask (De.start L) 1 tag 0 0).2) hp
  rw[ask_enter,←hs1] at hq
  exact hq))
 clear hL hmade hi
 have hn1:¬ (60:Int)<(n:Int):=by omega
 have hm1:¬ (M:Int)<0:=by omega
 have HI:=hid hI
 have HXn:=hid hn
 have HGl:=hid hgl
 have HSE:=hid hsE
 have HSs:=hid hs1
 clear hA hI hn h60 hN hL1000 hgl hsE hs1
 go_enter Tryz.func4,Tryz.ntmps4
 go_wp2_with (first
  |(go_at_call 8;refine HAl.out.mono ?_;rintro e w1 ⟨rfl,hg1⟩;have HG1:=hid hg1;clear hg1)
  |(go_at_call 23;refine (HRo.out _ HG1.out).mono ?_;rintro e w2 ⟨rfl,h2⟩;have H2:=hid h2;clear h2)
  |(go_at_call 25;refine (HDn.out _ _ HG1.out H2.out).mono ?_;rintro e w3 ⟨hg3,a3,c3,rfl,hb3,hw3⟩;have HG3:=hid (grown_trans HG1.out hg3);have B3:=hid hb3;have Wh3:=hid hw3;clear hg3 hb3 hw3)
  |(go_at_call 26;refine (HMd.out _).mono ?_;rintro e w4 ⟨rfl,rfl⟩)
  |(go_at_call 27;refine (HD0.out _).mono ?_;rintro e w5 ⟨rfl,h5⟩;have D5:=hid h5;clear h5))
 clear hn1 hm1
 go_loopw [55] (fun i wr=>∃ j:Nat,j≤n∧i=.int .i64 j∧DocW w4 w4.heap.size (stI tag xs j) wr) (fun i _=>n-(intOf i).toNat)
 case atStart=>exact ⟨0,Nat.zero_le _,rfl,D5.out⟩
 case round =>
  obtain ⟨j,hj,rfl,hD⟩:=hrel
  have HD:=hid hD
  by_cases hjn:j<n
  ·have HC:=hid (HD3.out _ _ j _ hjn hD)
   obtain ⟨_,sb,so,_,hv,h2,h3,h4⟩:=HI.out.grown (grown_trans HG3.out hD.base)
   rw[HXn.out] at h3 h4 hv
   simp only[Value.slice.injEq] at hv
   obtain ⟨rfl,_,rfl⟩:=hv
   obtain ⟨rfl,hsb⟩:=h3 (by omega)
   have hcell:=h4 j hjn
   generalize xs.getD j 0=x at *
   clear hD h2 h4 h3
   go_wp2_with (go_at_call 27;refine HC.out.mono ?_;rintro e w6 ⟨rfl,h6⟩;have D6:=hid h6;clear h6)
   go_roundw
   case rel=>exact ⟨j+1,by omega,by go_num,D6.out⟩
   case measure=>simp[intOf];omega
  ·obtain rfl:j=n:=by omega
   have HC2:=hid (HD2.out _ _ _ hD)
   have hbq:((strOf L).toList==(strOf L).toList)=true:=beq_self_eq_true _
   clear hD
   go_wp2_with (first
    |(go_at_call 27;refine HC2.out.mono ?_;rintro e w6 ⟨rfl,h6⟩;have D6:=hid h6;clear h6)
    |(go_at_call 28;refine (HDD.out _ _ _ D6.out).mono ?_;rintro e w7 ⟨hg7,u7,rfl,hb7⟩;have G7:=hid hg7;have B7:=hid (hb7 B3.out.lt);have cv:=conv_bytes (P:=Tryz.prog) (B3.out.grown hg7) 22 5 9 Tryz.underlying22 Tryz.underlying5 Tryz.underlying9;have cv2:=conv_bytes (P:=Tryz.prog) B7.out 22 5 9 Tryz.underlying22 Tryz.underlying5 Tryz.underlying9;clear hg7 hb7)
    |(go_at_call 10;refine (HRd.out _ _ _ (grown_trans HG3.out G7.out) (B3.out.grown G7.out) Wh3.out).mono ?_;rintro e w8 ⟨b1,rfl,hg8,h8⟩;have G8:=hid hg8;have P8:=hid h8;clear hg8 h8)
    |(go_at_call 11;refine (HRf.out _ _ _ _ G8.out (B3.out.grown G7.out) Wh3.out).mono ?_;rintro e w9 ⟨b2,rfl,hg9,h9⟩;have HC3:=hid (HRw.out _ _ _ _ _ _ (grown_trans HG3.out G7.out) (P8.out.still hg9) h9 (fun k hk hf=>by
      rcases hf with hf|hf
      ·exact hf
      ·have:=hk.2;omega));clear hg9 h9)
    |(go_at_call 29;refine HC3.out.mono ?_;rintro e w10 ⟨ga,gc,F1,rfl,h10⟩;have R10:=hid h10;clear h10)
    |(go_at_call 21;refine (HQ0.out _ _ _ _ _ _ _ R10.out).mono ?_;rintro e w11 ⟨v11,rfl,h11⟩;have R11:=hid h11;clear h11))
   have T11:Hid (∃ F2,Ro3 A w7 F1 F2 b1 b2 sE s1 (.slice ga gl.length gc) gl 0 (cellsI []) (.slice (some ⟨w11.heap.size,0,none⟩) 0 0) (w11.alloc (.cells #[] 3))):=hid (by
    obtain ⟨F2,h⟩:=R11.out
    exact ⟨F2,h.told⟩)
   obtain ⟨W11,hW11⟩:∃ W11,W11=w11.alloc (.cells #[] 3):=⟨_,rfl⟩
   rw[←hW11] at T11 ⊢
   clear hW11 hbq
   obtain ⟨wo,rfl⟩:∃ wo:World,wo=wr:=⟨_,rfl⟩
   go_loopw [18] (fun r wr=>∃ (l:List Int) (s':De.Rd) (F2:Nat→Prop),Ro3 A w7 F1 F2 b1 b2 sE s' (.slice ga gl.length gc) gl l.length (cellsI l) r wr∧LeftI l.length s'∧l.length≤M∧rowG getI (M-l.length) s' l=rowG getI M s1 []) (fun r _=>200000-lenV r)
   case atStart =>
    obtain ⟨F2,h⟩:=T11.out
    exact ⟨[],s1,F2,h,HS1.out,Nat.zero_le _,rfl⟩
   case round =>
    obtain ⟨l,s',F2,hR,hJ,hlm,hrow⟩:=hrel
    obtain ⟨wq,rfl⟩:∃ wq:World,wq=wr:=⟨_,rfl⟩
    have R:=hid hR
    have HJl:=hid hJ
    have hl1:=hJ.le
    have HBw:=hid hR.r2.base
    have HEw:=hid (fun W (hW:w7.grownBy W none)=>HA.out.grown (grown_trans (grown_trans HG3.out G7.out) hW))
    have HMo:=hid (refMore_any hR.r2 (by have:=hJ.lev;omega))
    have HEr:Hid (∀ W,wq.grownBy W none→Calls Tryz.prog 17 #[.pointer (some ⟨b1,0,none⟩)] W fun e w'=>e=.returned (errOf A sE.e)∧w'=W):=hid (fun W hW=>prErrR_any (hR.r1.still hW))
    obtain ⟨ra,rg,rc,rfl,hrc,-,-,-,hrop⟩:=own_formN hR.row
    by_cases hm:De.more s'=true
    ·rw[hm] at HMo
     by_cases hlt:l.length<M
     ·have HC:Hid (∀ W,wq.grownBy W none→Calls Tryz.prog 21 #[.pointer (some ⟨b2,0,none⟩),.agg #[.int .i64 3,.int .i64 0,.int .i64 0,.int .i64 1000]] W fun e w'=>∃ y2 y3 y4,e=.returned (.agg #[.int .i64 0,.int .i64 (getI s').2,y2,y3,y4])∧∃ F2,Ro3 A w7 F1 F2 b1 b2 sE (getI s').1 (.slice ga gl.length gc) gl l.length (cellsI l) (.slice ra l.length rc) w'):=hid (fun W hW=>(rdDo_any (R.out.still hW).r2 3 0 0 1000 (by have:=hJ.lev;omega) hJ.top).mono (fun e w' hp=>by
       obtain ⟨a,c,S,he,_⟩:=hp.ans
       exact ⟨_,_,_,he,_,(R.out.still hW).did (s2:=(De.ask s' 3 0 0 1000).1) (y:=(De.ask s' 3 0 0 1000).2) hp⟩))
      obtain ⟨s2,hs2⟩:∃ s2,s2=(getI s').1:=⟨_,rfl⟩
      obtain ⟨v2,hv2⟩:∃ v2,v2=(getI s').2:=⟨_,rfl⟩
      rw[←hs2,←hv2] at HC
      have HNx:Hid (LeftI (l.length+1) s2∧rowG getI (M-(l.length+1)) s2 (l++[v2])=rowG getI M s1 []):=hid ⟨by rw[hs2];exact getI_left hJ hm,by
       rw[hs2,hv2,←hrow,show M-l.length=(M-(l.length+1))+1 by omega,rowG_next hm]⟩
      obtain ⟨k,hk⟩:∃ k,k=l.length:=⟨_,rfl⟩
      have HK:=hid hk
      have hgeq:¬ (M:Int)≤(k:Int):=by omega
      rw[←hk] at hl1 R HC ⊢
      have hfd:∀ y2 y3 y4 w,(Instr.field 41 (.agg #[.int .i64 0,.int .i64 v2,y2,y3,y4]) 1).run Tryz.prog w=.ok (.int .i64 v2) w:=fun y2 y3 y4 w=>rq_field v2 y2 y3 y4 w
      have HL1:=hid hl1
      have HLt:=hid hlt
      clear hR hJ hlm hrow hm hlt hrop hs2 hv2 hk hl1
      go_wp2_with (first
       |(go_at_call 13;refine HMo.out.mono ?_;rintro e w12 ⟨rfl,hg12⟩;have G12:=hid hg12;clear hg12)
       |(go_at_call 21;refine (HC.out _ G12.out).mono ?_;rintro e w13 ⟨y2,y3,y4,rfl,F3,h13⟩;have R13:=hid h13;clear h13)
       |(obtain ⟨w14,hw14⟩:∃ w14,w14=w13.alloc (.cells #[.int .i64 v2] 3):=⟨_,rfl⟩;rw[←hw14];have g14:Hid (w13.grownBy w14 none):=hid (by rw[hw14];exact World.grownBy_alloc _ _ _);have b14:w14.heap[w13.heap.size]?=some (.cells #[.int .i64 v2] 3 (0,0)):=(by rw[hw14];exact alloc_at _ _);refine wpList_appN2 (by rfl) (.tmp 109) (.tmp 114) 46 (by rfl) w7.heap.size 3 (.int .i64 0) 1 8 Tryz.underlying46 (by kernel_rfl) rfl (by decide) (by decide) _ k (cellsI l) (by rfl) (R13.out.still g14.out).row ⟨w13.heap.size,0,none⟩ 1 1 [.int .i64 v2] (by rfl) (by rfl) (fun q u hu=>by rw[addr_addO,Nat.zero_add];exact cell_blk b14 q (by simpa using hu)) (fun u hu=>by rw[List.mem_singleton.1 hu];rfl) (by have:=HL1.out;omega) (R13.out.still g14.out).r2.base.size ?_;intro v15 w15 ho15 hg15 hb15;have R15:=hid (R13.out.more g14.out ho15 hg15 hb15);clear hw14 b14 ho15 hg15 hb15))
      have hr15:=R15.out.row
      obtain ⟨ra15,rg15,rc15,rfl,hrc15,-⟩:=own_formN hr15
      clear hr15
      go_roundw
      case rel =>
       refine ⟨l++[v2],s2,F3,?_,?_,?_,?_⟩
       ·rw[List.length_append,List.length_singleton,←HK.out,cellsI_append]
        exact R15.out
       ·rw[List.length_append,List.length_singleton];exact HNx.out.1
       ·rw[List.length_append,List.length_singleton];exact HLt.out
       ·rw[List.length_append,List.length_singleton];exact HNx.out.2
      case measure =>
       have:=HL1.out
       simp only[lenV]
       omega
     ·have hlm2:l.length=M:=by omega
      have hRe:=rowEnd_long (s:=De.start L) (tag:=tag) (most:=M) (l:=l) hm (by rw[←HSs.out,←hrow,hlm2,Nat.sub_self])
      have hs3:sE.e=3:=by rw[HSE.out,hRe]
      have hg0:gl.length=0:=by rw[HGl.out,hRe];rfl
      rw[hs3] at HEr
      have HNu:=hid (fun W (hW:w7.grownBy W none)=>num_of A 3 (by decide) W (HEw.out W hW))
      have hgeq:(M:Int)≤(l.length:Int):=by omega
      obtain ⟨k,hk⟩:∃ k,k=l.length:=⟨_,rfl⟩
      rw[←hk] at hgeq ⊢
      rw[hg0]
      clear hR hJ hlm hrow hm hlt hrop hlm2 hRe hs3 hk hl1
      go_wp2_with (first
       |(go_at_call 13;refine HMo.out.mono ?_;rintro e w12 ⟨rfl,hg12⟩;have G12:=hid hg12;clear hg12)
       |(go_at_call 17;refine (HEr.out _ G12.out).mono ?_;rintro e w13 ⟨rfl,rfl⟩)
       |(go_at_call 16;refine (HNu.out _ (grown_trans HBw.out G12.out)).mono ?_;rintro e w14 ⟨rfl,hg14⟩;have G14:=hid (grown_trans G12.out hg14);clear hg14))
      go_ret
      exact ⟨rfl,grown_trans (grown_trans (grown_trans HG3.out G7.out) HBw.out) G14.out⟩
    ·have hmf:De.more s'=false:=by cases hmm:De.more s' with
      |false=>rfl
      |true=>exact absurd hmm hm
     rw[hmf] at HMo
     have HC:Hid (∀ W,wq.grownBy W none→Calls Tryz.prog 21 #[.pointer (some ⟨b2,0,none⟩),.agg #[.int .i64 2,.int .i64 0,.int .i64 0,.int .i64 0]] W fun e w'=>∃ v,e=.returned v∧∃ F2,Ro3 A w7 F1 F2 b1 b2 sE (De.leave s') (.slice ga gl.length gc) gl l.length (cellsI l) (.slice ra l.length rc) w'):=hid (fun W hW=>(rdDo_any (R.out.still hW).r2 2 0 0 0 (by have:=hJ.lev;omega) hJ.top).mono (fun e w' hp=>by
      obtain ⟨a,c,S,he,_⟩:=hp.ans
      have hq:=(R.out.still hW).did (s2:=(De.ask s' 2 0 0 0).1) (y:=(De.ask s' 2 0 0 0).2) hp
      rw[ask_leave] at hq
      exact ⟨_,he,_,hq⟩))
     have hRe:=rowEnd_stop (s:=De.start L) (tag:=tag) (most:=M) (l:=l) hm (by rw[←HSs.out];exact hrow)
     have hse:sE=De.leave s':=by rw[HSE.out,hRe]
     have hg2:gl=if (De.leave s').e≠0 then [] else l:=by rw[HGl.out,hRe]
     have h28:sE.e≤28:=by rw[hse];exact De.leave_e28 hJ.e28
     rw[←hse] at HC hg2
     by_cases he:sE.e=0
     ·have hgl2:gl=l:=by rw[hg2,if_neg (by rw[he];decide)]
      have HSm:Hid (∀ F3 W,Ro3 A w7 F1 F3 b1 b2 sE sE (.slice ga gl.length gc) gl l.length (cellsI l) (.slice ra l.length rc) W→Calls Tryz.prog 31 #[.slice ga gl.length gc,.slice ra l.length rc] W fun e w'=>e=.returned (.bool true)∧W.grownBy w' none):=hid (fun F3 W h=>(sameI_any _ _ gl l W h.got.now (Ints.own h.row) (by rw[hgl2];omega) (by omega)).mono (fun e w' ⟨h1,q,h2⟩=>⟨by rw[h1,decide_eq_true hgl2],by rw[h2];exact grown_drewN (grown_refl _ _) q⟩))
      have HEr2:Hid (∀ F3 W,Ro3 A w7 F1 F3 b1 b2 sE sE (.slice ga gl.length gc) gl l.length (cellsI l) (.slice ra l.length rc) W→Calls Tryz.prog 17 #[.pointer (some ⟨b1,0,none⟩)] W fun e w'=>e=.returned .nilIface∧w'=W):=hid (fun F3 W h=>by
       have:=prErrR_any h.r1
       rw[errOf,if_pos he] at this
       exact this)
      have hcell:∀ F3 W,Ro3 A w7 F1 F3 b1 b2 sE sE (.slice ga gl.length gc) gl l.length (cellsI l) (.slice ra l.length rc) W→W.cell? ⟨b2,1,none⟩=some (.int .i64 0):=fun F3 W h=>by
       have:=h.cell
       rw[he] at this
       exact this
      have HCe:=hid hcell
      generalize gl.length=gn at *
      generalize l.length=k at *
      clear hR hJ hlm hrow hm hmf hrop hRe hse hg2 h28 he hgl2 hl1 hcell
      go_wp2_with (first
       |(go_at_call 13;refine HMo.out.mono ?_;rintro e w12 ⟨rfl,hg12⟩;have G12:=hid hg12;clear hg12)
       |(go_at_call 21;refine (HC.out _ G12.out).mono ?_;rintro e w13 ⟨v13,rfl,F3,h13⟩;have R13:=hid h13;have c13:=HCe.out _ _ h13;clear h13)
       |(go_at_call 17;refine (HEr2.out _ _ R13.out).mono ?_;rintro e w14 ⟨rfl,rfl⟩)
       |(go_at_call 31;refine (HSm.out _ _ R13.out).mono ?_;rintro e w15 ⟨rfl,hg15⟩;have G15:=hid hg15;clear hg15))
      go_ret
      exact ⟨rfl,grown_trans (grown_trans (grown_trans HG3.out G7.out) R13.out.r2.base) G15.out⟩
     ·have hg0:gl.length=0:=by rw[hg2,if_pos he];rfl
      rw[hg0] at HC R ⊢
      obtain ⟨E,hE⟩:∃ E,E=sE.e:=⟨_,rfl⟩
      have hne:¬ ((E:Nat):Int)=0:=by rw[hE];omega
      have HE28:Hid (E≤28):=hid (by rw[hE];exact h28)
      have HErr:Hid (∀ F3 W,Ro3 A w7 F1 F3 b1 b2 sE sE (.slice ga 0 gc) gl l.length (cellsI l) (.slice ra l.length rc) W→Calls Tryz.prog 17 #[.pointer (some ⟨b1,0,none⟩)] W fun e w'=>∃ v,e=.returned v∧W.grownBy w' none∧isV (errOf A E) v w'):=hid (fun F3 W h=>(prErrR_any h.r1).mono (fun e w' hp=>by
       obtain ⟨rfl,rfl⟩:=hp
       exact ⟨_,rfl,grown_refl _ _,by rw[hE];rfl⟩))
      have HCe:Hid (∀ F3 W,Ro3 A w7 F1 F3 b1 b2 sE sE (.slice ga 0 gc) gl l.length (cellsI l) (.slice ra l.length rc) W→W.cell? ⟨b2,1,none⟩=some (.int .i64 (E:Nat))):=hid (fun F3 W h=>by rw[hE];exact h.cell)
      generalize l.length=k at *
      clear hR hJ hlm hrow hm hmf hrop hRe hse hg2 h28 he hl1 hg0 hE
      go_wp2_with (first
       |(go_at_call 13;refine HMo.out.mono ?_;rintro e w12 ⟨rfl,hg12⟩;have G12:=hid hg12;clear hg12)
       |(go_at_call 21;refine (HC.out _ G12.out).mono ?_;rintro e w13 ⟨v13,rfl,F3,h13⟩;have R13:=hid h13;have c13:=HCe.out _ _ h13;clear h13))
      refine rw_region33 _ b1 b2 gc ga E (errOf A E) w13 _ _ rfl rfl rfl rfl (fun W hW=>HErr.out _ _ (R13.out.still hW)) (fun W hW=>numQ HE28.out (HEw.out _ (R13.out.still hW).r2.base)) (fun W hW=>HCe.out _ _ (R13.out.still hW)) (grown_drewN (grown_refl _ _) 1) (fun us w14 hg14=>?_)
      simp only[fill_cons,fill_nil,Act.put,List.setIfInBounds_toArray,List.set_cons_succ,List.set_cons_zero]
      have G14:=hid hg14
      clear hg14
      go_wp2
      go_ret
      exact ⟨rfl,grown_trans (grown_trans (grown_trans HG3.out G7.out) R13.out.r2.base) G14.out⟩
theorem derRows_any (A:Nat→Addr) (va:Option Addr) (n vc:Nat) (xs:List Int) (tag most:Int) (w:World) (hA:AllErrs w A) (hI:Ints w (.slice va n vc) xs) (hi:∀ x∈xs,De.I64 x) :
  Calls Tryz.prog 4 #[.slice va n vc,.int .i64 tag,.int .i64 most] w fun e w'=>e=.returned (.bool true)∧w.grownBy w' none:=by
 by_cases h:60<n∨most<0
 ·exact derRows_long A va n vc tag most w hA h
 obtain ⟨M,rfl⟩:∃ M:Nat,most=M:=⟨most.toNat,by omega⟩
 have hn:xs.length=n:=by
  obtain ⟨_,_,_,_,hv,_⟩:=hI
  simp only[Value.slice.injEq] at hv
  exact hv.2.1.symm
 cases hm:Tl.made tag with
 |true=>exact derRows_main A va n vc xs tag M w hA hI hn (by omega) hi hm
 |false=>exact derRows_bad A va n vc xs tag M w hA hI hn (by omega) hi hm
end Go.Proofs.YtndkifkhdollgaaGreatDoor
