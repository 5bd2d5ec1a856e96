import Derived.Test.YtijkaknggdaajaaGreatDoorZr03
import Derived.Test.YtijkaknggdaajaaGreatDoorZr08
import Derived.Test.YtijkaknggdaajaaGreatDoorZr14
import Derived.BigRegion
import Derived.BigQuiet
set_option linter.unusedVariables false
set_option linter.unusedSimpArgs false
set_option maxRecDepth 100000
set_option maxHeartbeats 8000000
namespace Go.Proofs.YtijkaknggdaajaaGreatDoor
open Lib (hid)
open Go.RowKit
theorem hold_blk {w w':World} {b:Nat} {o:Obj} (h:w.heap[b]?=some o) (hg:w.grownBy w' none):w'.heap[b]?=some o:=(hg.block b (blk_lt h) (by simp)).trans h
structure NameErr (w:World) (A:Nat→Addr):Prop where
 name:w.cell? ⟨0,0,none⟩=some (errV A 9)
theorem NameErr.grown {w w':World} {A:Nat→Addr} (h:NameErr w A) (hg:w.grownBy w' none):NameErr w' A :=
 ⟨(World.cell?_of_block (hg.block _ (World.block_lt_of_cell? w _ h.name) (by simp))).trans h.name⟩
def i64 (k:Int):Prop:=-9223372036854775808≤k∧k≤9223372036854775807
theorem word_emp (k:Int):(Na.word k).toList.isEmpty=!decide (1≤k∧k≤5):=by
 by_cases h:1≤k∧k≤5
 ·rw[decide_eq_true h]
  rcases (show k=1∨k=2∨k=3∨k=4∨k=5 by omega) with rfl|rfl|rfl|rfl|rfl <;> decide +kernel
 ·rw[decide_eq_false h,show Na.word k=Na.e0 by unfold Na.word;rw[if_neg (by omega),if_neg (by omega),if_neg (by omega),if_neg (by omega),if_neg (by omega)];rfl]
  decide +kernel
theorem refRight9_any (s:Na.Sb) (hk:i64 s.k) (h1:s.sp.size≤1000000) (h2:s.nm.size≤1000000) (w:World):Calls Tryz.prog 12 #[Na.val s] w fun e w'=>e=.returned (.bool (Na.right s))∧w.grownBy w' none:=by
 obtain ⟨k,sp,nm⟩:=s
 have HWd:=hid (fun W=>word_any k hk W)
 have HL1:=hid (fun W=>refLabel_any sp h1 W)
 have HL2:=hid (fun W=>refLabel_any nm h2 W)
 have he:=emp_str sp
 have hwe:=word_emp k
 unfold Na.val Na.right
 simp only
 generalize Pt.label (strL nm)=ln at *
 generalize Pt.label (strL sp)=ls at *
 generalize hd:decide (sp=⟨#[]⟩)=ds at *
 generalize Na.word k=wk at *
 clear h1 h2 hd hk
 have HC:Hid (∀ W,(w.alloc (.cells #[.int .i64 k,.string sp,.string nm] 23)).grownBy W none→W.cell? ⟨w.heap.size,0,none⟩=some (.int .i64 k)∧W.cell? ⟨w.heap.size,1,none⟩=some (.string sp)∧W.cell? ⟨w.heap.size,2,none⟩=some (.string nm)):=hid (fun W hg=>by
  have hb:=hg.block w.heap.size (by rw[alloc_size];omega) (by simp)
  exact ⟨(World.cell?_of_block hb).trans (cell_blk (alloc_at w _) 0 rfl),(World.cell?_of_block hb).trans (cell_blk (alloc_at w _) 1 rfl),(World.cell?_of_block hb).trans (cell_blk (alloc_at w _) 2 rfl)⟩)
 generalize hq:decide (1≤k∧k≤5)=q at *
 clear hq
 by_cases k2:k=2
 ·subst k2
  rw[if_pos rfl]
  clear he
  cases q <;> cases ln
  all_goals
   go_enter Tryz.func12,Tryz.ntmps12
   go_wp2_with (first
    |(go_at_call 44;refine (HWd.out _).mono ?_;rintro e w2 ⟨rfl,hg2⟩;obtain ⟨c0,c1,c2⟩:=HC.out _ hg2;have HG:=hid (grown_trans (grown_alloc (grown_refl _ _) _) hg2);clear hg2)
    |(go_at_call 45;with_reducible refine (HL2.out _).mono ?_;rintro e w3 ⟨rfl,rfl⟩)
    |(go_at_call 45;with_reducible refine (HL1.out _).mono ?_;rintro e w3 ⟨rfl,rfl⟩))
   go_ret
   exact ⟨rfl,HG.out⟩
 ·rw[if_neg k2]
  have hk2:(k==2)=false:=by simpa using k2
  clear k2
  cases q <;> cases ln
  all_goals
   go_enter Tryz.func12,Tryz.ntmps12
   go_wp2_with (first
    |(go_at_call 44;refine (HWd.out _).mono ?_;rintro e w2 ⟨rfl,hg2⟩;obtain ⟨c0,c1,c2⟩:=HC.out _ hg2;have HG:=hid (grown_trans (grown_alloc (grown_refl _ _) _) hg2);clear hg2)
    |(go_at_call 45;with_reducible refine (HL2.out _).mono ?_;rintro e w3 ⟨rfl,rfl⟩))
   go_ret
   exact ⟨rfl,HG.out⟩
def cellsP (l:List Na.Pr):List Value:=(l.map fun p=>[Value.string p.1,Value.string p.2]).flatten
theorem cellsP_cons (p:Na.Pr) (l:List Na.Pr):cellsP (p :: l)=.string p.1 :: .string p.2 :: cellsP l:=rfl
theorem cellsP_append (a b:List Na.Pr):cellsP (a++b)=cellsP a++cellsP b:=by simp[cellsP]
theorem cellsP_at:∀ (l:List Na.Pr) (i:Nat),i<l.length→(cellsP l)[i*2]?=some (.string (l.getD i (Na.e0,Na.e0)).1)∧(cellsP l)[i*2+1]?=some (.string (l.getD i (Na.e0,Na.e0)).2)
 |[],i,h=>absurd h (Nat.not_lt_zero _)
 |p :: r,0,_=>⟨rfl,rfl⟩
 |p :: r,i+1,h=>by
  have:=cellsP_at r i (by simpa using h)
  rw[cellsP_cons,show (i+1)*2=i*2+1+1 by omega,show i*2+1+1+1=(i*2+1)+1+1 by omega]
  simpa using this
def Prts (w:World) (v:Value) (l:List Na.Pr):Prop :=
 ∃ (a:Option Addr) (sb so c:Nat),v=.slice a l.length c∧(0<l.length→a=some ⟨sb,so,none⟩∧sb<w.heap.size)∧∀ i,i<l.length→w.cell? ⟨sb,so+i*2,none⟩=some (.string (l.getD i (Na.e0,Na.e0)).1)∧w.cell? ⟨sb,so+i*2+1,none⟩=some (.string (l.getD i (Na.e0,Na.e0)).2)
theorem Prts.grown {w w':World} {v:Value} {l:List Na.Pr} (h:Prts w v l) (hg:w.grownBy w' none):Prts w' v l:=by
 obtain ⟨a,sb,so,c,h1,h3,h4⟩:=h
 refine ⟨a,sb,so,c,h1,fun hp=>⟨(h3 hp).1,Nat.lt_of_lt_of_le (h3 hp).2 hg.size⟩,fun j hj=>?_⟩
 have hb:=hg.block sb (h3 (by omega)).2 (by simp)
 exact ⟨(World.cell?_of_block hb).trans (h4 j hj).1,(World.cell?_of_block hb).trans (h4 j hj).2⟩
theorem Prts.own {w:World} {base:Nat} {v:Value} {n:Nat} {l:List Na.Pr} (h:w.ownsRow base 88 2 v n (cellsP l)) (hn:n=l.length):Prts w v l:=by
 subst hn
 obtain ⟨a,g,c,rfl,_,_,_,_,h2⟩:=own_formN h
 refine ⟨a,g,0,c,rfl,fun hp=>⟨(h2 hp).1,(h2 hp).2.1⟩,fun i hi=>?_⟩
 obtain ⟨_,_,h3,_⟩:=h2 (by omega)
 obtain ⟨k1,k2⟩:=cellsP_at l i hi
 rw[Nat.zero_add]
 exact ⟨h3 _ _ k1,h3 _ _ k2⟩
theorem iPart:((Tryz.prog.info? 88).map (fun i=>(i.zero,i.size,i.bytes)))=some (some (.agg #[.string ⟨#[]⟩,.string ⟨#[]⟩]),2,32):=by kernel_rfl
theorem own_one {w:World} (base:Nat) (hb:base≤w.heap.size) (x y:Value):(w.alloc (.cells #[x,y] 88)).ownsRow base 88 2 (.slice (some ⟨w.heap.size,0,none⟩) 1 1) 1 [x,y] :=
 ⟨rfl,.inr ⟨w.heap.size,1,#[x,y],rfl,hb,alloc_at w _,Nat.le_refl _,by unfold maxLen;omega,rfl,rfl⟩⟩
theorem hold_own {w wa w':World} {b base:Nat} {e t:TypeId} {sz n:Nat} {v:Value} {xs:List Value} {cs:Array Value} {fr:Nat×Nat} (h:w.heap[b]?=some (.cells cs t fr)) (hg0:w.grownBy wa none) (hv:wa.ownsRow base e sz v n xs) (he:e≠t) (hg:wa.grownBy w' v.ownBlock):w'.heap[b]?=some (.cells cs t fr):=by
 have ha:=hold_blk h hg0
 rw[hg.block b (blk_lt ha) (fun e2=>own_cells_ne hv ha he e2.symm)]
 exact ha
theorem parts9_ok (s:Na.Sb) (h1:s.sp.size≤2000) (h2:s.nm.size≤2000) (hr:Na.right s=true) (w:World) (hW:Words w):Calls Tryz.prog 8 #[Na.val s] w fun e w'=>∃ v,e=.returned (.tuple #[v,.nilIface])∧w.grownBy w' none∧w'.ownsRow w.heap.size 88 2 v (Na.parts s).length (cellsP (Na.parts s)):=by
 have hI:(Tryz.prog.info? 23).map (·.size)=some 3:=by kernel_rfl
 have HIP:=hid iPart
 have HR:=hid (fun W=>right_any s h1 h2 W)
 have hk:=(Na.right_facts hr).1
 rw[hr] at HR
 obtain ⟨R,hR⟩:∃ R,R=Na.parts s:=⟨_,rfl⟩
 rw[←hR]
 unfold Na.parts Na.o1 Na.o2 Na.o3 at hR
 obtain ⟨k,sp,nm⟩:=s
 simp only at *
 obtain ⟨n,rfl⟩:∃ n:Nat,k=n:=⟨k.toNat,by omega⟩
 have he:=emp_str sp
 unfold Na.val at *
 generalize hwd:Na.word (n:Int)=wd at *
 have HC:Hid (∀ W,(w.alloc (.cells #[.int .i64 n,.string sp,.string nm] 23)).grownBy W none→W.heap[w.heap.size]?=some (.cells #[.int .i64 n,.string sp,.string nm] 23 (0,0))∧W.cell? ⟨1,n,none⟩=some (.string wd)):=hid (fun W hg=>by
  refine ⟨hold_blk (alloc_at w _) hg,?_⟩
  rw[←hwd]
  exact (hW.grown (grown_alloc (grown_refl _ _) _)).grown hg n (by omega))
 have k0:(0:Int)≤(n:Int):=by omega
 have k6:(n:Int)<6:=by omega
 have HB:=hid (alloc_at w (.cells #[.int .i64 n,.string sp,.string nm] 23))
 have HOne:=hid (fun (w:World) base hb x y=>own_one (w:=w) base hb x y)
 by_cases hs:sp=⟨#[]⟩
 ·rw[decide_eq_true hs] at he
  rw[if_pos (show sp=Na.e0 from hs)] at hR
  have HRs:=hid hR
  clear hR hs hr hk hW h1 h2 hwd
  go_enter Tryz.func8,Tryz.ntmps8
  go_wp2_with (first
   |(refine wpList_load_row (by rfl) 23 (.tmp 1) (by rfl) w.heap.size (by rfl) 23 #[.int .i64 (n:Int),.string sp,.string nm] (0,0) _ HB.out Tryz.underlying23 rfl hI ?_)
   |(go_at_call 11;refine (HR.out _).mono ?_;rintro e w2 ⟨rfl,hg2⟩;obtain ⟨hb,c3⟩:=HC.out _ hg2;have c0:=cell_blk hb 0 rfl;have c1:=cell_blk hb 1 rfl;have c2:=cell_blk hb 2 rfl;have hlt:=blk_lt hb;have HG2:=hid (grown_trans (grown_alloc (grown_refl _ _) _) hg2);clear hg2 hb;have e0:=HOne.out w2 w.heap.size HG2.out.size (.string ⟨#[49,46,51,46,57,57,57,57,46,49,46,49]⟩) (.string wd);have E0:=hid (e0.alloc (.cells #[.string ⟨#[49,46,51,46,57,57,57,57,46,49,46,51]⟩,.string nm] 88));clear e0)
   |(at_builtin;refine wpList_appN2 (by rfl) (.tmp 24) (.tmp 28) 26 (by rfl) w.heap.size 88 (.agg #[.string ⟨#[]⟩,.string ⟨#[]⟩]) 2 32 Tryz.underlying26 HIP.out rfl (by decide) (by decide) _ 1 [.string ⟨#[49,46,51,46,57,57,57,57,46,49,46,49]⟩,.string wd] (by rfl) E0.out ⟨_,0,none⟩ 1 _ [.string ⟨#[49,46,51,46,57,57,57,57,46,49,46,51]⟩,.string nm] (by rfl) rfl (by intro j u hj;rw[addr_addO,Nat.zero_add];exact cell_blk (alloc_at2 w2 (.cells #[.string ⟨#[49,46,51,46,57,57,57,57,46,49,46,49]⟩,.string wd] 88) (.cells #[.string ⟨#[49,46,51,46,57,57,57,57,46,49,46,51]⟩,.string nm] 88)) j (by simpa using hj)) (by intro u hu;simp at hu;rcases hu with rfl|rfl <;> rfl) (by omega) (by have:=HG2.out.size;simp only[alloc_size];omega) ?_;intro v3 w3 ho3 hg3 _;have O3_:=hid ho3;have G3:=hid hg3;clear ho3 hg3))
  go_ret2
  refine ⟨_,rfl,grown_own (grown_alloc HG2.out _) (HOne.out w2 w.heap.size HG2.out.size (.string ⟨#[49,46,51,46,57,57,57,57,46,49,46,49]⟩) (.string wd)) (Nat.le_refl _) (grown_trans (World.grownBy_alloc _ _ _) G3.out),?_⟩
  rw[HRs.out]
  exact O3_.out
 ·rw[decide_eq_false hs] at he
  rw[if_neg (show ¬ sp=Na.e0 from hs)] at hR
  have HRs:=hid hR
  clear hR hs hr hk hW h1 h2 hwd
  go_enter Tryz.func8,Tryz.ntmps8
  go_wp2_with (first
   |(refine wpList_load_row (by rfl) 23 (.tmp 1) (by rfl) w.heap.size (by rfl) 23 #[.int .i64 (n:Int),.string sp,.string nm] (0,0) _ HB.out Tryz.underlying23 rfl hI ?_)
   |(go_at_call 11;refine (HR.out _).mono ?_;rintro e w2 ⟨rfl,hg2⟩;obtain ⟨hb,c3⟩:=HC.out _ hg2;have HB2:=hid hb;have c0:=cell_blk hb 0 rfl;have c1:=cell_blk hb 1 rfl;have c2:=cell_blk hb 2 rfl;have hlt:=blk_lt hb;have HG2:=hid (grown_trans (grown_alloc (grown_refl _ _) _) hg2);clear hg2 hb;have e0:=HOne.out w2 w.heap.size HG2.out.size (.string ⟨#[49,46,51,46,57,57,57,57,46,49,46,49]⟩) (.string wd);have E0:=hid (e0.alloc (.cells #[.string ⟨#[49,46,51,46,57,57,57,57,46,49,46,50]⟩,.string sp] 88));clear e0)
   |(at_builtin;refine wpList_appN2 (by rfl) (.tmp 18) (.tmp 22) 26 (by rfl) w.heap.size 88 (.agg #[.string ⟨#[]⟩,.string ⟨#[]⟩]) 2 32 Tryz.underlying26 HIP.out rfl (by decide) (by decide) _ 1 [.string ⟨#[49,46,51,46,57,57,57,57,46,49,46,49]⟩,.string wd] (by rfl) E0.out ⟨_,0,none⟩ 1 _ [.string ⟨#[49,46,51,46,57,57,57,57,46,49,46,50]⟩,.string sp] (by rfl) rfl (by intro j u hj;rw[addr_addO,Nat.zero_add];exact cell_blk (alloc_at2 w2 (.cells #[.string ⟨#[49,46,51,46,57,57,57,57,46,49,46,49]⟩,.string wd] 88) (.cells #[.string ⟨#[49,46,51,46,57,57,57,57,46,49,46,50]⟩,.string sp] 88)) j (by simpa using hj)) (by intro u hu;simp at hu;rcases hu with rfl|rfl <;> rfl) (by omega) (by have:=HG2.out.size;simp only[alloc_size];omega) ?_;intro v3 w3 ho3 hg3 _;have O3_:=hid ho3;have G3:=hid hg3;clear ho3 hg3;have HB3:=hid (hold_own HB2.out (World.grownBy_alloc _ _ none) (HOne.out w2 w.heap.size HG2.out.size (.string ⟨#[49,46,51,46,57,57,57,57,46,49,46,49]⟩) (.string wd)) (by decide) (grown_trans (World.grownBy_alloc _ _ _) G3.out));have c2:=cell_blk HB3.out 2 rfl;have hlt3:=blk_lt HB3.out;have E3:=hid (O3_.out.alloc (.cells #[.string ⟨#[49,46,51,46,57,57,57,57,46,49,46,51]⟩,.string nm] 88));have HG3:=hid (grown_own (grown_alloc HG2.out _) (HOne.out w2 w.heap.size HG2.out.size (.string ⟨#[49,46,51,46,57,57,57,57,46,49,46,49]⟩) (.string wd)) (Nat.le_refl _) (grown_trans (World.grownBy_alloc _ _ _) G3.out)))
   |(at_builtin;refine wpList_appN2 (by rfl) (.tmp 24) (.tmp 28) 26 (by rfl) w.heap.size 88 (.agg #[.string ⟨#[]⟩,.string ⟨#[]⟩]) 2 32 Tryz.underlying26 HIP.out rfl (by decide) (by decide) _ 2 [.string ⟨#[49,46,51,46,57,57,57,57,46,49,46,49]⟩,.string wd,.string ⟨#[49,46,51,46,57,57,57,57,46,49,46,50]⟩,.string sp] (by rfl) E3.out ⟨_,0,none⟩ 1 _ [.string ⟨#[49,46,51,46,57,57,57,57,46,49,46,51]⟩,.string nm] (by rfl) rfl (by intro j u hj;rw[addr_addO,Nat.zero_add];exact cell_blk (alloc_at w3 (.cells #[.string ⟨#[49,46,51,46,57,57,57,57,46,49,46,51]⟩,.string nm] 88)) j (by simpa using hj)) (by intro u hu;simp at hu;rcases hu with rfl|rfl <;> rfl) (by omega) (by have:=HG3.out.size;simp only[alloc_size];omega) ?_;intro v4 w4 ho4 hg4 _;have O4_:=hid ho4;have G4:=hid hg4;clear ho4 hg4))
  go_ret2
  refine ⟨_,rfl,grown_own HG3.out O3_.out (Nat.le_refl _) (grown_trans (World.grownBy_alloc _ _ _) G4.out),?_⟩
  rw[HRs.out]
  exact O4_.out
theorem refParts9_any (s:Na.Sb) (hr:Na.right s=true) (w:World):Calls Tryz.prog 18 #[Na.val s] w fun e w'=>∃ v,e=.returned v∧w.grownBy w' none∧w'.ownsRow w.heap.size 88 2 v (Na.parts s).length (cellsP (Na.parts s)):=by
 have HIP:=hid iPart
 obtain ⟨hk,_,_,h4,h5⟩:=Na.right_facts hr
 obtain ⟨R,hR⟩:∃ R,R=Na.parts s:=⟨_,rfl⟩
 rw[←hR]
 unfold Na.parts Na.o1 Na.o2 Na.o3 at hR
 obtain ⟨k,sp,nm⟩:=s
 simp only at *
 have HWd:=hid (fun W=>word_any k ⟨by omega,by omega⟩ W)
 unfold Na.val at *
 generalize Na.word k=wd at *
 have HC:Hid (∀ W,(w.alloc (.cells #[.int .i64 k,.string sp,.string nm] 23)).grownBy W none→W.heap[w.heap.size]?=some (.cells #[.int .i64 k,.string sp,.string nm] 23 (0,0))):=hid (fun W hg=>hold_blk (alloc_at w _) hg)
 have HOne:=hid (fun (w:World) base hb x y=>own_one (w:=w) base hb x y)
 by_cases hs:k=2
 ·rw[if_neg (fun h=>h5.1 h hs)] at hR
  have HRs:=hid hR
  have hk2:(k==2)=true:=by rw[hs];rfl
  clear hR hs hr hk h4 h5
  go_enter Tryz.func18,Tryz.ntmps18
  go_wp2_with (first
   |(go_at_call 44;refine (HWd.out _).mono ?_;rintro e w2 ⟨rfl,hg2⟩;have hb:=HC.out _ hg2;have HB2:=hid hb;have c0:=cell_blk hb 0 rfl;have c1:=cell_blk hb 1 rfl;have c2:=cell_blk hb 2 rfl;have hlt:=blk_lt hb;have HG2:=hid (grown_trans (grown_alloc (grown_refl _ _) _) hg2);clear hg2 hb;have e0:=HOne.out w2 w.heap.size HG2.out.size (.string ⟨#[49,46,51,46,57,57,57,57,46,49,46,49]⟩) (.string wd);have E0:=hid (e0.alloc (.cells #[.string ⟨#[49,46,51,46,57,57,57,57,46,49,46,50]⟩,.string sp] 88));clear e0)
   |(at_builtin;refine wpList_appN2 (by rfl) (.tmp 12) (.tmp 16) 26 (by rfl) w.heap.size 88 (.agg #[.string ⟨#[]⟩,.string ⟨#[]⟩]) 2 32 Tryz.underlying26 HIP.out rfl (by decide) (by decide) _ 1 [.string ⟨#[49,46,51,46,57,57,57,57,46,49,46,49]⟩,.string wd] (by rfl) E0.out ⟨_,0,none⟩ 1 _ [.string ⟨#[49,46,51,46,57,57,57,57,46,49,46,50]⟩,.string sp] (by rfl) rfl (by intro j u hj;rw[addr_addO,Nat.zero_add];exact cell_blk (alloc_at2 w2 (.cells #[.string ⟨#[49,46,51,46,57,57,57,57,46,49,46,49]⟩,.string wd] 88) (.cells #[.string ⟨#[49,46,51,46,57,57,57,57,46,49,46,50]⟩,.string sp] 88)) j (by simpa using hj)) (by intro u hu;simp at hu;rcases hu with rfl|rfl <;> rfl) (by omega) (by have:=HG2.out.size;simp only[alloc_size];omega) ?_;intro v3 w3 ho3 hg3 _;have O3_:=hid ho3;have G3:=hid hg3;clear ho3 hg3;have HB3:=hid (hold_own HB2.out (World.grownBy_alloc _ _ none) (HOne.out w2 w.heap.size HG2.out.size (.string ⟨#[49,46,51,46,57,57,57,57,46,49,46,49]⟩) (.string wd)) (by decide) (grown_trans (World.grownBy_alloc _ _ _) G3.out));have c2:=cell_blk HB3.out 2 rfl;have hlt3:=blk_lt HB3.out;have E3:=hid (O3_.out.alloc (.cells #[.string ⟨#[49,46,51,46,57,57,57,57,46,49,46,51]⟩,.string nm] 88));have HG3:=hid (grown_own (grown_alloc HG2.out _) (HOne.out w2 w.heap.size HG2.out.size (.string ⟨#[49,46,51,46,57,57,57,57,46,49,46,49]⟩) (.string wd)) (Nat.le_refl _) (grown_trans (World.grownBy_alloc _ _ _) G3.out)))
   |(at_builtin;refine wpList_appN2 (by rfl) (.tmp 18) (.tmp 22) 26 (by rfl) w.heap.size 88 (.agg #[.string ⟨#[]⟩,.string ⟨#[]⟩]) 2 32 Tryz.underlying26 HIP.out rfl (by decide) (by decide) _ 2 [.string ⟨#[49,46,51,46,57,57,57,57,46,49,46,49]⟩,.string wd,.string ⟨#[49,46,51,46,57,57,57,57,46,49,46,50]⟩,.string sp] (by rfl) E3.out ⟨_,0,none⟩ 1 _ [.string ⟨#[49,46,51,46,57,57,57,57,46,49,46,51]⟩,.string nm] (by rfl) rfl (by intro j u hj;rw[addr_addO,Nat.zero_add];exact cell_blk (alloc_at w3 (.cells #[.string ⟨#[49,46,51,46,57,57,57,57,46,49,46,51]⟩,.string nm] 88)) j (by simpa using hj)) (by intro u hu;simp at hu;rcases hu with rfl|rfl <;> rfl) (by omega) (by have:=HG3.out.size;simp only[alloc_size];omega) ?_;intro v4 w4 ho4 hg4 _;have O4_:=hid ho4;have G4:=hid hg4;clear ho4 hg4))
  go_ret
  refine ⟨_,rfl,grown_own HG3.out O3_.out (Nat.le_refl _) (grown_trans (World.grownBy_alloc _ _ _) G4.out),?_⟩
  rw[HRs.out]
  exact O4_.out
 ·rw[if_pos (h4 hs)] at hR
  have HRs:=hid hR
  have hk2:(k==2)=false:=by simpa using hs
  clear hR hs hr hk h4 h5
  go_enter Tryz.func18,Tryz.ntmps18
  go_wp2_with (first
   |(go_at_call 44;refine (HWd.out _).mono ?_;rintro e w2 ⟨rfl,hg2⟩;have hb:=HC.out _ hg2;have c0:=cell_blk hb 0 rfl;have c1:=cell_blk hb 1 rfl;have c2:=cell_blk hb 2 rfl;have hlt:=blk_lt hb;have HG2:=hid (grown_trans (grown_alloc (grown_refl _ _) _) hg2);clear hg2 hb;have e0:=HOne.out w2 w.heap.size HG2.out.size (.string ⟨#[49,46,51,46,57,57,57,57,46,49,46,49]⟩) (.string wd);have E0:=hid (e0.alloc (.cells #[.string ⟨#[49,46,51,46,57,57,57,57,46,49,46,51]⟩,.string nm] 88));clear e0)
   |(at_builtin;refine wpList_appN2 (by rfl) (.tmp 18) (.tmp 22) 26 (by rfl) w.heap.size 88 (.agg #[.string ⟨#[]⟩,.string ⟨#[]⟩]) 2 32 Tryz.underlying26 HIP.out rfl (by decide) (by decide) _ 1 [.string ⟨#[49,46,51,46,57,57,57,57,46,49,46,49]⟩,.string wd] (by rfl) E0.out ⟨_,0,none⟩ 1 _ [.string ⟨#[49,46,51,46,57,57,57,57,46,49,46,51]⟩,.string nm] (by rfl) rfl (by intro j u hj;rw[addr_addO,Nat.zero_add];exact cell_blk (alloc_at2 w2 (.cells #[.string ⟨#[49,46,51,46,57,57,57,57,46,49,46,49]⟩,.string wd] 88) (.cells #[.string ⟨#[49,46,51,46,57,57,57,57,46,49,46,51]⟩,.string nm] 88)) j (by simpa using hj)) (by intro u hu;simp at hu;rcases hu with rfl|rfl <;> rfl) (by omega) (by have:=HG2.out.size;simp only[alloc_size];omega) ?_;intro v3 w3 ho3 hg3 _;have O3_:=hid ho3;have G3:=hid hg3;clear ho3 hg3))
  go_ret
  refine ⟨_,rfl,grown_own (grown_alloc HG2.out _) (HOne.out w2 w.heap.size HG2.out.size (.string ⟨#[49,46,51,46,57,57,57,57,46,49,46,49]⟩) (.string wd)) (Nat.le_refl _) (grown_trans (World.grownBy_alloc _ _ _) G3.out),?_⟩
  rw[HRs.out]
  exact O3_.out
theorem Prts.form {w:World} {v:Value} {l:List Na.Pr} (h:Prts w v l):∃ a c,v=.slice a l.length c:=by
 obtain ⟨a,_,_,c,e,_⟩:=h
 exact ⟨a,c,e⟩
theorem eqParts_any (v1 v2:Value) (l m:List Na.Pr) (w:World) (h1:Prts w v1 l) (h2:Prts w v2 m) (hl:l.length≤2000) (hm:m.length≤2000) :
  Calls Tryz.prog 51 #[v1,v2] w fun e w'=>e=.returned (.bool (decide (l=m)))∧w.grownBy w' none:=by
 have HP1:=hid (fun W (hg:w.grownBy W none)=>h1.grown hg)
 have HP2:=hid (fun W (hg:w.grownBy W none)=>h2.grown hg)
 obtain ⟨a1,b1,s1,c1,rfl,ha1,hx1⟩:=h1
 obtain ⟨a2,b2,s2,c2,rfl,ha2,hx2⟩:=h2
 by_cases hlm:l.length=m.length
 ·have HX1:=hid (fun W (hg:w.grownBy W none) i (hi:i<l.length)=>(show W.cell? ⟨b1,s1+i*2,none⟩=some (.string (l.getD i (Na.e0,Na.e0)).1)∧W.cell? ⟨b1,s1+i*2+1,none⟩=some (.string (l.getD i (Na.e0,Na.e0)).2) from by
   have hb:=hg.block b1 (ha1 (by omega)).2 (by simp)
   exact ⟨(World.cell?_of_block hb).trans (hx1 i hi).1,(World.cell?_of_block hb).trans (hx1 i hi).2⟩))
  have HX2:=hid (fun W (hg:w.grownBy W none) i (hi:i<m.length)=>(show W.cell? ⟨b2,s2+i*2,none⟩=some (.string (m.getD i (Na.e0,Na.e0)).1)∧W.cell? ⟨b2,s2+i*2+1,none⟩=some (.string (m.getD i (Na.e0,Na.e0)).2) from by
   have hb:=hg.block b2 (ha2 (by omega)).2 (by simp)
   exact ⟨(World.cell?_of_block hb).trans (hx2 i hi).1,(World.cell?_of_block hb).trans (hx2 i hi).2⟩))
  obtain ⟨N,hN⟩:∃ N,N=l.length:=⟨_,rfl⟩
  have HA1:Hid (0<N→a1=some ⟨b1,s1,none⟩):=hid (fun h=>(ha1 (by omega)).1)
  have HA2:Hid (0<N→a2=some ⟨b2,s2,none⟩):=hid (fun h=>(ha2 (by omega)).1)
  have HEq:Hid ((∀ j,j<N→l.getD j (Na.e0,Na.e0)=m.getD j (Na.e0,Na.e0))→l=m):=hid (fun h=>by
   apply List.ext_getElem (by omega)
   intro i hi hi2
   have:=h i (by omega)
   rw[List.getD_eq_getElem?_getD,List.getD_eq_getElem?_getD,List.getElem?_eq_getElem hi,List.getElem?_eq_getElem hi2] at this
   simpa using this)
  rw[←hN] at HX1
  rw[←hlm,←hN] at HX2
  rw[←hlm,←hN]
  have hNl:N≤2000:=by omega
  obtain ⟨R,hR⟩:∃ R,R=decide (l=m):=⟨_,rfl⟩
  rw[←hR]
  have HR:=hid hR
  clear hR
  clear ha1 ha2 hx1 hx2 hlm hl hm hN HP1 HP2
  go_enter Tryz.func51,Tryz.ntmps51
  go_wp2
  go_loopw [13,5] (fun i _ wr=>∃ k:Nat,k≤N∧i=.int .i64 (k:Int)∧w.grownBy wr none∧∀ j,j<k→l.getD j (Na.e0,Na.e0)=m.getD j (Na.e0,Na.e0)) (fun i _ _=>N-(intOf i).toNat)
  case atStart=>exact ⟨0,by omega,rfl,grown_refl _ _,fun j hj=>absurd hj (Nat.not_lt_zero _)⟩
  case round =>
   obtain ⟨k,hk,rfl,hg,h0⟩:=hrel
   have HG:=hid hg
   have H0:=hid h0
   clear hg h0
   by_cases hkN:k<N
   ·obtain ⟨x0,x1⟩:=HX1.out wr HG.out k hkN
    obtain ⟨y0,y1⟩:=HX2.out wr HG.out k hkN
    obtain rfl:=HA1.out (by omega)
    obtain rfl:=HA2.out (by omega)
    by_cases he:l.getD k (Na.e0,Na.e0)=m.getD k (Na.e0,Na.e0)
    ·have HN2:Hid (∀ j,j<k+1→l.getD j (Na.e0,Na.e0)=m.getD j (Na.e0,Na.e0)):=hid (fun j hj=>by
      rcases Nat.lt_or_ge j k with h|h
      ·exact H0.out j h
      ·obtain rfl:j=k:=by omega
       exact he)
     rw[←he] at y0 y1
     generalize l.getD k (Na.e0,Na.e0)=p at *
     obtain ⟨p1,p2⟩:=p
     simp only at x0 x1 y0 y1
     clear he
     go_wp2
     go_quiet (fail)
     go_wp2
     go_roundw
     case rel=>exact ⟨k+1,by omega,by go_num,grown_drewN HG.out _,HN2.out⟩
     case measure=>simp[intOf];omega
    ·have hlm:Hid (decide (l=m)=false):=hid (decide_eq_false (fun h=>he (by rw[h])))
     generalize l.getD k (Na.e0,Na.e0)=p at *
     generalize m.getD k (Na.e0,Na.e0)=q at *
     obtain ⟨p1,p2⟩:=p
     obtain ⟨q1,q2⟩:=q
     simp only at x0 x1 y0 y1
     have hcs:(¬ p1.toList=q1.toList)∨(p1=q1∧¬ p2.toList=q2.toList):=by
      by_cases e:p1=q1
      ·exact .inr ⟨e,fun h=>he (by rw[e,Na.toList_inj h])⟩
      ·exact .inl (fun h=>e (Na.toList_inj h))
     clear he
     rcases hcs with hc|⟨rfl,hc⟩
     all_goals
      go_wp2
      go_quiet (fail)
      go_wp2
      go_ret
      exact ⟨retB7 (by rw[HR.out,hlm.out]),grown_drewN HG.out _⟩
   ·obtain rfl:k=N:=by omega
    have hlm:Hid (decide (l=m)=true):=hid (decide_eq_true (HEq.out H0.out))
    go_wp2
    go_ret
    exact ⟨retB7 (by rw[HR.out,hlm.out]),HG.out⟩
 ·have hne:¬ l=m:=fun h=>hlm (by rw[h])
  rw[decide_eq_false hne]
  have hlm':((l.length:Int)==(m.length:Int))=false:=by rw[beq_eq_false_iff_ne];omega
  generalize l.length=N1 at *
  generalize m.length=N2 at *
  clear ha1 ha2 hx1 hx2 hne hlm HP1 HP2
  go_enter Tryz.func51,Tryz.ntmps51
  go_wp2
  go_ret
  exact ⟨rfl,grown_refl _ _⟩
theorem of11_any (p:Na.Pr) (o:ByteArray) (ob:Nat) (w:World) (ho:w.cell? ⟨ob,0,none⟩=some (.string o)):Calls Tryz.prog 49 #[.agg #[.string p.1,.string p.2],.pointer (some ⟨ob,0,none⟩)] w fun e w'=>e=.returned (.bool (decide (p.1=o)))∧w.grownBy w' none:=by
 obtain ⟨p1,p2⟩:=p
 have hlt:=World.block_lt_of_cell? w _ ho
 have hlt':ob<w.heap.size:=hlt
 have hb:(p1.toList==o.toList)=decide (p1=o):=by
  rw[Bool.eq_iff_iff,beq_iff_eq,decide_eq_true_eq];exact ⟨Na.toList_inj,fun h=>by rw[h]⟩
 have HB:=hid hb
 clear hb
 simp only
 go_enter Tryz.func49,Tryz.ntmps49
 go_wp2
 go_ret
 exact ⟨retB7 (by rw[←HB.out]),grown_alloc (grown_refl _ _) _⟩
def ixOf (o:ByteArray):List Na.Pr→Int
 |[]=>-1
 |p :: r=>if p.1=o then 0 else if ixOf o r=-1 then -1 else ixOf o r+1
theorem ix_at:∀ {l:List Na.Pr} {o:ByteArray} {k:Nat},k<l.length→(∀ j,j<k→(l.getD j (Na.e0,Na.e0)).1≠o)→(l.getD k (Na.e0,Na.e0)).1=o→ixOf o l=k
 |[],_,k,h,_,_=>absurd h (Nat.not_lt_zero _)
 |p :: r,o,0,_,_,h=>by rw[ixOf,if_pos (by simpa using h)];rfl
 |p :: r,o,k+1,hk,hj,h=>by
  rw[ixOf,if_neg (by simpa using hj 0 (by omega)),ix_at (k:=k) (by simpa using hk) (fun j hjk=>by simpa using hj (j+1) (by omega)) (by simpa using h),if_neg (by omega)]
  omega
theorem ix_none:∀ {l:List Na.Pr} {o:ByteArray},(∀ j,j<l.length→(l.getD j (Na.e0,Na.e0)).1≠o)→ixOf o l=-1
 |[],_,_=>rfl
 |p :: r,o,h=>by
  rw[ixOf,if_neg (by simpa using h 0 (by simp)),ix_none (fun j hj=>by simpa using h (j+1) (by simpa using hj)),if_pos rfl]
theorem ix_cases:∀ (l:List Na.Pr) (o:ByteArray),(∃ j:Nat,j<l.length∧Na.firstOf o l=(l.getD j (Na.e0,Na.e0)).2∧ixOf o l=j)∨(Na.firstOf o l=Na.e0∧ixOf o l=-1)
 |[],_=>.inr ⟨rfl,rfl⟩
 |p :: r,o=>by
  by_cases e:p.1=o
  ·exact .inl ⟨0,by simp,by rw[Na.firstOf,if_pos e];simp,by rw[ixOf,if_pos e];rfl⟩
  ·rcases ix_cases r o with ⟨j,h1,h2,h3⟩|⟨h1,h2⟩
   ·exact .inl ⟨j+1,by simpa using h1,by rw[Na.firstOf,if_neg e,h2];simp,by rw[ixOf,if_neg e,h3,if_neg (by omega)];omega⟩
   ·exact .inr ⟨by rw[Na.firstOf,if_neg e,h1],by rw[ixOf,if_neg e,h2,if_pos rfl]⟩
theorem ixParts_any (v:Value) (l:List Na.Pr) (o:ByteArray) (ob:Nat) (w:World) (hP:Prts w v l) (ho:w.cell? ⟨ob,0,none⟩=some (.string o)) (hl:l.length≤2000) :
  Calls Tryz.prog 48 #[v,.func (.func 49) #[] #[.pointer (some ⟨ob,0,none⟩)]] w fun e w'=>e=.returned (.int .i64 (ixOf o l))∧w.grownBy w' none:=by
 obtain ⟨a1,b1,s1,c1,rfl,ha1,hx1⟩:=hP
 have HOf:=hid (fun W (hg:w.grownBy W none) p=>of11_any p o ob W ((World.cell?_of_block (hg.block ob (World.block_lt_of_cell? w _ ho) (by simp))).trans ho))
 have HX1:=hid (fun W (hg:w.grownBy W none) i (hi:i<l.length)=>(show W.cell? ⟨b1,s1+i*2,none⟩=some (.string (l.getD i (Na.e0,Na.e0)).1)∧W.cell? ⟨b1,s1+i*2+1,none⟩=some (.string (l.getD i (Na.e0,Na.e0)).2) from by
  have hb:=hg.block b1 (ha1 (by omega)).2 (by simp)
  exact ⟨(World.cell?_of_block hb).trans (hx1 i hi).1,(World.cell?_of_block hb).trans (hx1 i hi).2⟩))
 have HF:Hid (∀ k,k<l.length→(∀ j,j<k→(l.getD j (Na.e0,Na.e0)).1≠o)→(l.getD k (Na.e0,Na.e0)).1=o→ixOf o l=k):=hid (fun k=>ix_at)
 have HNn:Hid ((∀ j,j<l.length→(l.getD j (Na.e0,Na.e0)).1≠o)→ixOf o l=-1):=hid ix_none
 generalize ixOf o l=R at *
 obtain ⟨N,hN⟩:∃ N,N=l.length:=⟨_,rfl⟩
 have HA1:Hid (0<N→a1=some ⟨b1,s1,none⟩):=hid (fun h=>(ha1 (by omega)).1)
 rw[←hN] at HX1 HF HNn
 rw[←hN]
 have hNl:N≤2000:=by omega
 clear ha1 hx1 hl hN ho
 go_enter Tryz.func48,Tryz.ntmps48
 go_wp2
 go_loopw [8,5] (fun i _ wr=>∃ k:Nat,k≤N∧i=.int .i64 (k:Int)∧w.grownBy wr none∧∀ j,j<k→(l.getD j (Na.e0,Na.e0)).1≠o) (fun i _ _=>N-(intOf i).toNat)
 case atStart=>exact ⟨0,by omega,rfl,grown_refl _ _,fun j hj=>absurd hj (Nat.not_lt_zero _)⟩
 case round =>
  obtain ⟨k,hk,rfl,hg,h0⟩:=hrel
  have HG:=hid hg
  have H0:=hid h0
  clear hg h0
  by_cases hkN:k<N
  ·obtain ⟨x0,x1⟩:=HX1.out wr HG.out k hkN
   obtain rfl:=HA1.out (by omega)
   have HC:=hid (HOf.out wr HG.out (l.getD k (Na.e0,Na.e0)))
   by_cases he:(l.getD k (Na.e0,Na.e0)).1=o
   ·rw[decide_eq_true he] at HC
    have HY:Hid (R=k):=hid (HF.out k hkN H0.out he)
    generalize (l.getD k (Na.e0,Na.e0)).1=p1 at *
    generalize (l.getD k (Na.e0,Na.e0)).2=p2 at *
    clear he
    go_wp2_with (go_at_call 49;refine HC.out.mono ?_;rintro e w2 ⟨rfl,hg2⟩;have HG2:=hid (grown_trans HG.out hg2);clear hg2)
    go_ret
    exact ⟨by rw[HY.out];rfl,HG2.out⟩
   ·rw[decide_eq_false he] at HC
    have HN2:Hid (∀ j,j<k+1→(l.getD j (Na.e0,Na.e0)).1≠o):=hid (fun j hj=>by
     rcases Nat.lt_or_ge j k with h|h
     ·exact H0.out j h
     ·obtain rfl:j=k:=by omega
      exact he)
    generalize (l.getD k (Na.e0,Na.e0)).1=p1 at *
    generalize (l.getD k (Na.e0,Na.e0)).2=p2 at *
    clear he
    go_wp2_with (go_at_call 49;refine HC.out.mono ?_;rintro e w2 ⟨rfl,hg2⟩;have HG2:=hid (grown_trans HG.out hg2);clear hg2)
    go_roundw
    case rel=>exact ⟨k+1,by omega,by go_num,HG2.out,HN2.out⟩
    case measure=>simp[intOf];omega
  ·obtain rfl:k=N:=by omega
   have HY:Hid (R=-1):=hid (HNn.out H0.out)
   go_wp2
   go_ret
   exact ⟨by rw[HY.out];rfl,HG.out⟩
theorem of1_any (v:Value) (l:List Na.Pr) (o:ByteArray) (pb:Nat) (w:World) (hP:Prts w v l) (hp:w.cell? ⟨pb,0,none⟩=some v) (hl:l.length≤2000) :
  Calls Tryz.prog 47 #[.string o,.pointer (some ⟨pb,0,none⟩)] w fun e w'=>e=.returned (.string (Na.firstOf o l))∧w.grownBy w' none:=by
 have hlt:pb<w.heap.size:=World.block_lt_of_cell? w _ hp
 have HIx:=hid (ixParts_any v l o w.heap.size (w.alloc (.cells #[.string o] 9)) (hP.grown (World.grownBy_alloc _ _ _)) (cell_blk (alloc_at w _) 0 rfl) hl)
 have HPb:=hid (fun W (hg:w.grownBy W none)=>(World.cell?_of_block (hg.block pb hlt (by simp))).trans hp)
 obtain ⟨a1,b1,s1,c1,rfl,ha1,hx1⟩:=hP
 have HX1:=hid (fun W (hg:w.grownBy W none) i (hi:i<l.length)=>(show W.cell? ⟨b1,s1+i*2+1,none⟩=some (.string (l.getD i (Na.e0,Na.e0)).2) from by
  have hb:=hg.block b1 (ha1 (by omega)).2 (by simp)
  exact (World.cell?_of_block hb).trans (hx1 i hi).2))
 have HA1:Hid (0<l.length→a1=some ⟨b1,s1,none⟩):=hid (fun h=>(ha1 h).1)
 have HG0:=hid (World.grownBy_alloc w (.cells #[.string o] 9) none)
 obtain ⟨N,hN⟩:∃ N,N=l.length:=⟨_,rfl⟩
 have hic:=ix_cases l o
 rw[←hN] at HX1 HA1 HIx hp HPb
 rw[←hN] at hic
 have hNl:N≤2000:=by omega
 obtain ⟨R,hR⟩:∃ R,R=Na.firstOf o l:=⟨_,rfl⟩
 rw[←hR] at hic ⊢
 clear ha1 hx1 hN hR hl
 rcases hic with ⟨j,hj,hRj,hij⟩|⟨hR0,hij⟩
 ·rw[hij] at HIx
  have HRj:=hid hRj
  have HJ:=hid hj
  have hj0:(0:Int)≤(j:Int):=by omega
  have hjN:(j:Int)<(N:Int):=by omega
  obtain rfl:=HA1.out (by omega)
  clear hij hRj
  go_enter Tryz.func47,Tryz.ntmps47
  go_wp2_with (go_at_call 48;refine HIx.out.mono ?_;rintro e w2 ⟨rfl,hg2⟩;have hg:=grown_trans HG0.out hg2;have q1:=HPb.out _ hg;have q2:=HX1.out _ hg j HJ.out;have HG2:=hid hg;clear hg hg2)
  go_ret
  exact ⟨by rw[HRj.out];rfl,HG2.out⟩
 ·rw[hij] at HIx
  have HR0:=hid hR0
  clear hij hR0
  go_enter Tryz.func47,Tryz.ntmps47
  go_wp2_with (go_at_call 48;refine HIx.out.mono ?_;rintro e w2 ⟨rfl,hg2⟩;have HG2:=hid (grown_trans HG0.out hg2);clear hg2)
  go_ret
  exact ⟨by rw[HR0.out];rfl,HG2.out⟩
theorem parts9_no (A:Nat→Addr) (s:Na.Sb) (h1:s.sp.size≤2000) (h2:s.nm.size≤2000) (hr:Na.right s=false) (w:World) (hE:NameErr w A):Calls Tryz.prog 8 #[Na.val s] w fun e w'=>e=.returned (.tuple #[.slice none 0 0,errV A 9])∧w.grownBy w' none:=by
 have hI:(Tryz.prog.info? 23).map (·.size)=some 3:=by kernel_rfl
 have HR:=hid (fun W=>right_any s h1 h2 W)
 rw[hr] at HR
 obtain ⟨k,sp,nm⟩:=s
 unfold Na.val at *
 have HB:=hid (alloc_at w (.cells #[.int .i64 k,.string sp,.string nm] 23))
 have HEr:=hid (fun W (hg:w.grownBy W none)=>(hE.grown hg).name)
 clear hr h1 h2 hE
 go_enter Tryz.func8,Tryz.ntmps8
 go_wp2_with (first
  |(refine wpList_load_row (by rfl) 23 (.tmp 1) (by rfl) w.heap.size (by rfl) 23 #[.int .i64 k,.string sp,.string nm] (0,0) _ HB.out Tryz.underlying23 rfl hI ?_)
  |(go_at_call 11;refine (HR.out _).mono ?_;rintro e w2 ⟨rfl,hg2⟩;have hg:=grown_trans (grown_alloc (grown_refl _ _) _) hg2;have he:=HEr.out _ hg;have HG2:=hid hg;clear hg2 hg))
 go_quiet (fail)
 go_wp2
 go_ret2
 exact ⟨rfl,grown_drewN HG2.out _⟩
theorem first_le {l:List Na.Pr} {o:ByteArray} (h:∀ p∈l,p.2.size≤900):(Na.firstOf o l).size≤900:=by
 induction l with
 |nil=>show Na.e0.size≤900;decide
 |cons p r ih =>
  rw[Na.firstOf]
  split
  ·exact h p (by simp)
  ·exact ih (fun q hq=>h q (by simp[hq]))
def OfV (A:Nat→Addr) (l:List Na.Pr):Array Value:=if Na.right (Na.s0 l)=true∧Na.parts (Na.s0 l)=l then #[Na.val (Na.s0 l),.nilIface] else #[Na.val ⟨0,Na.e0,Na.e0⟩,errV A 9]
theorem of9_any (A:Nat→Addr) (v:Value) (l:List Na.Pr) (w:World) (hP:Prts w v l) (hl:l.length≤2000) (hsz:∀ p∈l,p.2.size≤900) (hW:Words w) (hE:NameErr w A):Calls Tryz.prog 14 #[v] w fun e w'=>e=.returned (.tuple (OfV A l))∧w.grownBy w' none:=by
 have hI:(Tryz.prog.info? 23).map (·.size)=some 3:=by kernel_rfl
 have f2:=first_le (o:=Na.o2) hsz
 have f3:=first_le (o:=Na.o3) hsz
 have HF:=hid (fun o W (hg:(w.alloc (.cells #[v] 26)).grownBy W none)=>of1_any v l o w.heap.size W ((hP.grown (World.grownBy_alloc w (.cells #[v] 26) none)).grown hg) ((World.cell?_of_block (hg.block w.heap.size (by rw[alloc_size];omega) (by simp))).trans (cell_blk (alloc_at w _) 0 rfl)) hl)
 have HK:=hid (fun W (hg:w.grownBy W none)=>kindOf_any (Na.firstOf Na.o1 l) W (hW.grown hg))
 have HR2:=hid (fun (b:Bool) (hb:Na.right (Na.s0 l)=true) W (hg:w.grownBy W none)=>parts9_ok (Na.s0 l) (by show (Na.firstOf Na.o2 l).size≤2000;omega) (by show (Na.firstOf Na.o3 l).size≤2000;omega) hb W (hW.grown hg))
 have HR3:=hid (fun (hb:Na.right (Na.s0 l)=false) W (hg:w.grownBy W none)=>parts9_no A (Na.s0 l) (by show (Na.firstOf Na.o2 l).size≤2000;omega) (by show (Na.firstOf Na.o3 l).size≤2000;omega) hb W (hE.grown hg))
 have HEr:=hid (fun W (hg:w.grownBy W none)=>(hE.grown hg).name)
 have HEz:=hid (World.block_lt_of_cell? w _ hE.name)
 have HPv:=hid (fun W (hg:w.grownBy W none)=>hP.grown hg)
 have hpl:(Na.parts (Na.s0 l)).length≤2000:=by
  unfold Na.parts
  split <;> simp
 have HEq:=hid (fun v1 W (h1:Prts W v1 (Na.parts (Na.s0 l))) (hg:w.grownBy W none)=>eqParts_any v1 v (Na.parts (Na.s0 l)) l W h1 (hP.grown hg) hpl hl)
 have hV:Na.val (Na.s0 l)=.agg #[.int .i64 (Na.kindOf (Na.firstOf Na.o1 l)),.string (Na.firstOf Na.o2 l),.string (Na.firstOf Na.o3 l)]:=rfl
 have hOV:OfV A l=if Na.right (Na.s0 l)=true∧Na.parts (Na.s0 l)=l then #[.agg #[.int .i64 (Na.kindOf (Na.firstOf Na.o1 l)),.string (Na.firstOf Na.o2 l),.string (Na.firstOf Na.o3 l)],.nilIface] else #[.agg #[.int .i64 0,.string ⟨#[]⟩,.string ⟨#[]⟩],errV A 9]:=rfl
 rw[hV] at HR2 HR3
 rw[hOV]
 have HF1:=hid (fun W hg=>HF.out Na.o1 W hg)
 have HF2:=hid (fun W hg=>HF.out Na.o2 W hg)
 have HF3:=hid (fun W hg=>HF.out Na.o3 W hg)
 unfold Na.o1 at HF1
 unfold Na.o2 at HF2
 unfold Na.o3 at HF3
 have HB0:=hid (alloc_at2 w (.cells #[v] 26) (.cells #[.int .i64 0,.string ⟨#[]⟩,.string ⟨#[]⟩] 23))
 have HC0:=hid (cell_blk (alloc_keep (o:=.cells #[.int .i64 0,.string ⟨#[]⟩,.string ⟨#[]⟩] 23) (alloc_at w (.cells #[v] 26))) 0 rfl)
 have HG0:=hid (grown_alloc (grown_alloc (grown_refl w none) (.cells #[v] 26)) (.cells #[.int .i64 0,.string ⟨#[]⟩,.string ⟨#[]⟩] 23))
 have HG0b:=hid (World.grownBy_alloc (w.alloc (.cells #[v] 26)) (.cells #[.int .i64 0,.string ⟨#[]⟩,.string ⟨#[]⟩] 23) none)
 have hw0:w.heap.size<((w.alloc (.cells #[v] 26)).alloc (.cells #[.int .i64 0,.string ⟨#[]⟩,.string ⟨#[]⟩] 23)).heap.size:=by simp only[alloc_size];omega
 have HW0:=hid hw0
 obtain ⟨q,hq⟩:∃ q,q=Na.right (Na.s0 l):=⟨_,rfl⟩
 rw[←hq] at HR2 HR3 ⊢
 have HD:Hid (∀ b,decide (Na.parts (Na.s0 l)=l)=b→(Na.parts (Na.s0 l)=l↔b=true)):=hid (fun b h=>by rw[←h];simp)
 generalize hps:Na.parts (Na.s0 l)=ps at *
 unfold Na.o1 Na.o2 Na.o3 at *
 generalize Na.firstOf ⟨#[49,46,51,46,57,57,57,57,46,49,46,49]⟩ l=x1 at *
 generalize Na.firstOf ⟨#[49,46,51,46,57,57,57,57,46,49,46,50]⟩ l=x2 at *
 generalize Na.firstOf ⟨#[49,46,51,46,57,57,57,57,46,49,46,51]⟩ l=x3 at *
 generalize Na.kindOf x1=kx at *
 obtain ⟨av,nv,cv,rfl⟩:∃ a n c,v=.slice a n c:=by
  obtain ⟨a,c,e⟩:=hP.form
  exact ⟨a,_,c,e⟩
 clear hq hps HF hV hOV f2 f3 hpl hl hsz hW hE hP hw0
 have HF1':=hid (fun W hg=>HF1.out W hg)
 have arms:True:=trivial
 clear HF1' arms
 cases q with
 |false =>
  rw[if_neg (fun h=>absurd h.1 (by decide))]
  have HR3':=hid (HR3.out rfl)
  clear HR2 HR3 HEq HD
  go_enter Tryz.func14,Tryz.ntmps14
  go_wp2_with (first
   |(go_at_call 47;with_reducible refine (HF1.out _ HG0b.out).mono ?_;rintro e wa ⟨rfl,hga⟩;have HA:=hid (grown_trans HG0b.out hga);have HGA:=hid (grown_trans HG0.out hga);have HBA:=hid (hold_blk HB0.out hga);have HCA:=hid ((World.cell?_of_block (hga.block w.heap.size HW0.out (by simp))).trans HC0.out);have HWA:=hid (Nat.lt_of_lt_of_le HW0.out hga.size);clear hga)
   |(go_at_call 50;with_reducible refine (HK.out _ HGA.out).mono ?_;rintro e w2 ⟨rfl,rfl⟩)
   |(go_at_call 47;with_reducible refine (HF2.out _ HA.out).mono ?_;rintro e wb ⟨rfl,hgb⟩;have HAB:=hid (grown_trans HA.out hgb);have HGB:=hid (grown_trans HGA.out hgb);have HBB:=hid (hold_blk HBA.out hgb);have HCB:=hid ((World.cell?_of_block (hgb.block w.heap.size HWA.out (by simp))).trans HCA.out);have HWB:=hid (Nat.lt_of_lt_of_le HWA.out hgb.size);clear hgb)
   |(go_at_call 47;with_reducible refine (HF3.out _ HAB.out).mono ?_;rintro e wc ⟨rfl,hgc⟩;have HGC:=hid (grown_trans HGB.out hgc);have HBC:=hid (hold_blk HBB.out hgc);have HCC:=hid ((World.cell?_of_block (hgc.block w.heap.size HWB.out (by simp))).trans HCB.out);have HWC:=hid (Nat.lt_of_lt_of_le HWB.out hgc.size);have HSC:=hid (alloc_at wc (.cells #[.int .i64 kx,.string x2,.string x3] 23));clear hgc)
   |(refine wpList_load_row (by rfl) 23 (.tmp 5) (by rfl) wc.heap.size (by rfl) 23 #[.int .i64 kx,.string x2,.string x3] (0,0) _ HSC.out Tryz.underlying23 rfl hI ?_)
   |(go_at_call 8;refine (HR3'.out _ (grown_alloc HGC.out _)).mono ?_;rintro e wd ⟨rfl,hgd⟩;have HGD:=hid (grown_trans (grown_alloc HGC.out _) hgd);have HBD:=hid (hold_blk (alloc_keep (o:=.cells #[.int .i64 kx,.string x2,.string x3] 23) HBC.out) hgd);clear hgd))
  have he:=HEr.out _ HGD.out
  have y0:=free_blk HBD.out 0
  have y1:=free_blk HBD.out 1
  have y2:=free_blk HBD.out 2
  have z0:=cell_blk HBD.out 0 rfl
  have z1:=cell_blk HBD.out 1 rfl
  have z2:=cell_blk HBD.out 2 rfl
  have hz:0<w.heap.size:=HEz.out
  have hz1:w.heap.size+1≠0:=by omega
  have hz2:0≠w.heap.size+1:=by omega
  go_region
  go_wp2
  refine bodyPost_ret (v:=.tuple #[.agg #[.int .i64 0,.string ⟨#[]⟩,.string ⟨#[]⟩],errV A 9]) ?_ rfl ⟨rfl,?_⟩
  ·exact results_rowT Tryz.results14 _ _ (w.heap.size+1) _ _ (0,0) _ _ rfl (set3 HBD.out) Tryz.underlying23 rfl hI rfl
  ·exact grown_drewN (grown_set (grown_set (grown_set HGD.out (.inl (Nat.le_succ _)) _) (.inl (Nat.le_succ _)) _) (.inl (Nat.le_succ _)) _) 1
 |true =>
  have HR2':=hid (HR2.out true rfl)
  clear HR2 HR3
  by_cases hpl:ps=l
  ·rw[if_pos ⟨rfl,hpl⟩]
   have HEq':Hid (∀ v1 W,Prts W v1 ps→w.grownBy W none→Calls Tryz.prog 51 #[v1,.slice av nv cv] W fun e w'=>e=.returned (.bool true)∧W.grownBy w' none):=hid (fun v1 W h1 hg=>by have:=HEq.out v1 W h1 hg;rwa [decide_eq_true hpl] at this)
   clear HEq HD hpl HEr HEz
   go_enter Tryz.func14,Tryz.ntmps14
   go_wp2_with (first
    |(go_at_call 47;with_reducible refine (HF1.out _ HG0b.out).mono ?_;rintro e wa ⟨rfl,hga⟩;have HA:=hid (grown_trans HG0b.out hga);have HGA:=hid (grown_trans HG0.out hga);have HBA:=hid (hold_blk HB0.out hga);have HCA:=hid ((World.cell?_of_block (hga.block w.heap.size HW0.out (by simp))).trans HC0.out);have HWA:=hid (Nat.lt_of_lt_of_le HW0.out hga.size);clear hga)
    |(go_at_call 50;with_reducible refine (HK.out _ HGA.out).mono ?_;rintro e w2 ⟨rfl,rfl⟩)
    |(go_at_call 47;with_reducible refine (HF2.out _ HA.out).mono ?_;rintro e wb ⟨rfl,hgb⟩;have HAB:=hid (grown_trans HA.out hgb);have HGB:=hid (grown_trans HGA.out hgb);have HBB:=hid (hold_blk HBA.out hgb);have HCB:=hid ((World.cell?_of_block (hgb.block w.heap.size HWA.out (by simp))).trans HCA.out);have HWB:=hid (Nat.lt_of_lt_of_le HWA.out hgb.size);clear hgb)
    |(go_at_call 47;with_reducible refine (HF3.out _ HAB.out).mono ?_;rintro e wc ⟨rfl,hgc⟩;have HGC:=hid (grown_trans HGB.out hgc);have HBC:=hid (hold_blk HBB.out hgc);have HCC:=hid ((World.cell?_of_block (hgc.block w.heap.size HWB.out (by simp))).trans HCB.out);have HWC:=hid (Nat.lt_of_lt_of_le HWB.out hgc.size);have HSC:=hid (alloc_at wc (.cells #[.int .i64 kx,.string x2,.string x3] 23));clear hgc)
    |(refine wpList_load_row (by rfl) 23 (.tmp 5) (by rfl) wc.heap.size (by rfl) 23 #[.int .i64 kx,.string x2,.string x3] (0,0) _ HSC.out Tryz.underlying23 rfl hI ?_)
    |(go_at_call 8;refine (HR2'.out _ (grown_alloc HGC.out _)).mono ?_;rintro e wd ⟨v1,rfl,hgd,ho⟩;have HGD:=hid (grown_trans (grown_alloc HGC.out _) hgd);have HBD:=hid (hold_blk (alloc_keep (o:=.cells #[.int .i64 kx,.string x2,.string x3] 23) HBC.out) hgd);have HSD:=hid (hold_blk HSC.out hgd);have HO:=hid (Prts.own ho rfl);have c0:=(World.cell?_of_block (hgd.block w.heap.size (by have:=HWC.out;rw[alloc_size];omega) (by simp))).trans ((World.cell?_of_block ((World.grownBy_alloc wc (.cells #[.int .i64 kx,.string x2,.string x3] 23) none).block w.heap.size HWC.out (by simp))).trans HCC.out);clear hgd ho)
    |(go_at_call 51;refine (HEq'.out _ _ HO.out HGD.out).mono ?_;rintro e we ⟨rfl,hge⟩;have HGE:=hid (grown_trans HGD.out hge);have HBE:=hid (hold_blk HBD.out hge);have HSE:=hid (hold_blk HSD.out hge);clear hge c0)
    |(refine wpList_load_row (by rfl) 23 (.tmp 5) (by rfl) wc.heap.size (by rfl) 23 #[.int .i64 kx,.string x2,.string x3] (0,0) _ HSE.out Tryz.underlying23 rfl hI ?_;have y0:=free_blk HBE.out 0;have y1:=free_blk HBE.out 1;have y2:=free_blk HBE.out 2;have z0:=cell_blk HBE.out 0 rfl;have z1:=cell_blk HBE.out 1 rfl;have z2:=cell_blk HBE.out 2 rfl))
   refine bodyPost_ret (v:=.tuple #[.agg #[.int .i64 kx,.string x2,.string x3],.nilIface]) ?_ rfl ⟨rfl,grown_set (grown_set (grown_set HGE.out (.inl (Nat.le_succ _)) _) (.inl (Nat.le_succ _)) _) (.inl (Nat.le_succ _)) _⟩
   exact results_rowT Tryz.results14 _ _ (w.heap.size+1) _ _ (0,0) _ _ rfl (set3 HBE.out) Tryz.underlying23 rfl hI rfl
  ·rw[if_neg (fun h=>hpl h.2)]
   have HEq':Hid (∀ v1 W,Prts W v1 ps→w.grownBy W none→Calls Tryz.prog 51 #[v1,.slice av nv cv] W fun e w'=>e=.returned (.bool false)∧W.grownBy w' none):=hid (fun v1 W h1 hg=>by have:=HEq.out v1 W h1 hg;rwa [decide_eq_false hpl] at this)
   clear HEq HD hpl
   go_enter Tryz.func14,Tryz.ntmps14
   go_wp2_with (first
    |(go_at_call 47;with_reducible refine (HF1.out _ HG0b.out).mono ?_;rintro e wa ⟨rfl,hga⟩;have HA:=hid (grown_trans HG0b.out hga);have HGA:=hid (grown_trans HG0.out hga);have HBA:=hid (hold_blk HB0.out hga);have HCA:=hid ((World.cell?_of_block (hga.block w.heap.size HW0.out (by simp))).trans HC0.out);have HWA:=hid (Nat.lt_of_lt_of_le HW0.out hga.size);clear hga)
    |(go_at_call 50;with_reducible refine (HK.out _ HGA.out).mono ?_;rintro e w2 ⟨rfl,rfl⟩)
    |(go_at_call 47;with_reducible refine (HF2.out _ HA.out).mono ?_;rintro e wb ⟨rfl,hgb⟩;have HAB:=hid (grown_trans HA.out hgb);have HGB:=hid (grown_trans HGA.out hgb);have HBB:=hid (hold_blk HBA.out hgb);have HCB:=hid ((World.cell?_of_block (hgb.block w.heap.size HWA.out (by simp))).trans HCA.out);have HWB:=hid (Nat.lt_of_lt_of_le HWA.out hgb.size);clear hgb)
    |(go_at_call 47;with_reducible refine (HF3.out _ HAB.out).mono ?_;rintro e wc ⟨rfl,hgc⟩;have HGC:=hid (grown_trans HGB.out hgc);have HBC:=hid (hold_blk HBB.out hgc);have HCC:=hid ((World.cell?_of_block (hgc.block w.heap.size HWB.out (by simp))).trans HCB.out);have HWC:=hid (Nat.lt_of_lt_of_le HWB.out hgc.size);have HSC:=hid (alloc_at wc (.cells #[.int .i64 kx,.string x2,.string x3] 23));clear hgc)
    |(refine wpList_load_row (by rfl) 23 (.tmp 5) (by rfl) wc.heap.size (by rfl) 23 #[.int .i64 kx,.string x2,.string x3] (0,0) _ HSC.out Tryz.underlying23 rfl hI ?_)
    |(go_at_call 8;refine (HR2'.out _ (grown_alloc HGC.out _)).mono ?_;rintro e wd ⟨v1,rfl,hgd,ho⟩;have HGD:=hid (grown_trans (grown_alloc HGC.out _) hgd);have HBD:=hid (hold_blk (alloc_keep (o:=.cells #[.int .i64 kx,.string x2,.string x3] 23) HBC.out) hgd);have HSD:=hid (hold_blk HSC.out hgd);have HO:=hid (Prts.own ho rfl);have c0:=(World.cell?_of_block (hgd.block w.heap.size (by have:=HWC.out;rw[alloc_size];omega) (by simp))).trans ((World.cell?_of_block ((World.grownBy_alloc wc (.cells #[.int .i64 kx,.string x2,.string x3] 23) none).block w.heap.size HWC.out (by simp))).trans HCC.out);clear hgd ho)
    |(go_at_call 51;refine (HEq'.out _ _ HO.out HGD.out).mono ?_;rintro e we ⟨rfl,hge⟩;have HGE:=hid (grown_trans HGD.out hge);have HBE:=hid (hold_blk HBD.out hge);have HSE:=hid (hold_blk HSD.out hge);clear hge c0))
   have he:=HEr.out _ HGE.out
   have y0:=free_blk HBE.out 0
   have y1:=free_blk HBE.out 1
   have y2:=free_blk HBE.out 2
   have z0:=cell_blk HBE.out 0 rfl
   have z1:=cell_blk HBE.out 1 rfl
   have z2:=cell_blk HBE.out 2 rfl
   have hz:0<w.heap.size:=HEz.out
   have hz1:w.heap.size+1≠0:=by omega
   have hz2:0≠w.heap.size+1:=by omega
   go_region
   go_wp2
   refine bodyPost_ret (v:=.tuple #[.agg #[.int .i64 0,.string ⟨#[]⟩,.string ⟨#[]⟩],errV A 9]) ?_ rfl ⟨rfl,?_⟩
   ·exact results_rowT Tryz.results14 _ _ (w.heap.size+1) _ _ (0,0) _ _ rfl (set3 HBE.out) Tryz.underlying23 rfl hI rfl
   ·exact grown_drewN (grown_set (grown_set (grown_set HGE.out (.inl (Nat.le_succ _)) _) (.inl (Nat.le_succ _)) _) (.inl (Nat.le_succ _)) _) 1
end Go.Proofs.YtijkaknggdaajaaGreatDoor
