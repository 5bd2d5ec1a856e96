import Derived.Test.YtjjbkpjjmbfdhaaGreatDoorZb11
import Derived.Test.YtjjbkpjjmbfdhaaGreatDoorZb14
import Derived.Test.YtjjbkpjjmbfdhaaGreatDoorZb21
import Derived.Test.YtjjbkpjjmbfdhaaGreatDoorZb37
import Derived.Lib.SmallJoins
import Derived.Deep.RegionHeld3
set_option linter.unusedVariables false
set_option linter.unusedSimpArgs false
set_option maxRecDepth 100000
set_option maxHeartbeats 8000000
namespace Go.Proofs.YtjjbkpjjmbfdhaaGreatDoor
open Lib (hid)
open Go.RowKit Bu
theorem rbd_info:(Tryz.prog.info? 34).map (·.size)=some 3:=by kernel_rfl
theorem right_lt {v:Int} {sp:ByteArray} {l:List An} (h:1099511627776<v):right ⟨v,sp,l⟩=false:=by
 unfold right
 rw[decide_eq_false (by show ¬ (1≤v∧v≤1099511627776);omega),Bool.false_and]
def subR (a:Option Addr) (k c:Nat):Option Addr:=if c=k then a else a.map (·.add (k*4))
def Fits (v:Value):Prop:=∀ a n c,v=.slice a n c→n≤c
theorem Fits.own {w:World} {base:Nat} {e:TypeId} {sz:Nat} {v:Value} {n:Nat} {xs:List Value} (h:w.ownsRow base e sz v n xs):Fits v:=by
 obtain ⟨a,g,c,rfl,hc,_⟩:=own_formN h
 intro a' n' c' e
 simp only[Value.slice.injEq] at e
 obtain ⟨_,rfl,rfl⟩:=e
 exact hc
theorem elemAn:Tryz.prog.underlying 32=some (.slice (Tryz.prog.elem 32)):=by kernel_rfl
theorem sizeAn (w:World):(sizeOf (Tryz.prog.elem 32)).run Tryz.prog w=.ok 4 w:=by kernel_rfl
@[go_sem high] theorem run_fromAn (w:World) (a:Option Addr) (n c:Nat) (i:Int) (h0:0≤i) (h1:i≤n) :
  (Instr.slice 32 (.slice a n c) (some (.int .i64 i)) none none).run Tryz.prog w=.ok (.slice (subR a i.toNat c) (n-i.toNat) (c-i.toNat)) w:=by
 rw[run_slice_l w 32 a n c elemAn .i64 i h0 h1,sizeAn]
 simp only[Result.andThen,sliced,subR]
@[go_sem high] theorem run_toAn (w:World) (a:Option Addr) (n c:Nat) (i:Int) (h0:0≤i) (h1:i≤c) :
  (Instr.slice 32 (.slice a n c) none (some (.int .i64 i)) none).run Tryz.prog w=.ok (.slice a i.toNat c) w:=by
 have hadd:∀ x:Addr,x.add 0=x:=fun x=>by unfold Addr.add;split <;> simp_all
 rw[run_slice_h w 32 a n c elemAn .i64 i h0 h1,sizeAn]
 simp only[Result.andThen,sliced,Nat.zero_mul,Nat.sub_zero]
 congr 2
 split
 ·rfl
 ·cases a
  ·rfl
  ·simp[hadd]
theorem ran_full:(Tryz.prog.info? 43).map (fun i=>(i.zero,i.size,i.bytes))=some (some (.agg #[.int .i64 0,.string ⟨#[]⟩,.int .i64 0,.int .i64 0]),4,40):=by kernel_rfl
theorem Ans.lit {w:World} {g:Nat} {x:An} {t:TypeId} (h:w.heap[g]?=some (.cells #[.int .i64 x.g,.string x.k,.int .i64 x.f,.int .i64 x.t] t (0,0))):Ans w (.slice (some ⟨g,0,none⟩) 1 1) [x]:=by
 refine ⟨⟨rfl,some ⟨g,0,none⟩,g,0,1,rfl,fun _=>⟨rfl,blk_lt h⟩,fun j v hj=>?_⟩,Whole0.some _ _ _⟩
 rw[Nat.zero_add]
 match j,hj with
 |0,hj=>cases hj;exact cell_blk h 0 rfl
 |1,hj=>cases hj;exact cell_blk h 1 rfl
 |2,hj=>cases hj;exact cell_blk h 2 rfl
 |3,hj=>cases hj;exact cell_blk h 3 rfl
 |j+4,hj=>cases hj
theorem Fits.nil:Fits (.slice none 0 0):=fun a n c e=>by cases e;exact Nat.le_refl _
theorem set3_far {w:World} {b k:Nat} {x' y' z':Value} {o:Obj} (h:w.heap[k]?=some o) (hne:k≠b):(((w.setCell ⟨b,0,none⟩ x').setCell ⟨b,1,none⟩ y').setCell ⟨b,2,none⟩ z').heap[k]?=some o:=by
 rw[Below.heap_setCell _ _ _ _ hne,Below.heap_setCell _ _ _ _ hne,Below.heap_setCell _ _ _ _ hne]
 exact h
theorem Ans.set3 {w:World} {b:Nat} {x y z x' y' z':Value} {t:TypeId} {p:Value} {l:List An} (h:Ans w p l) (hb:w.heap[b]?=some (.cells #[x,y,z] t (0,0))):Ans (((w.setCell ⟨b,0,none⟩ x').setCell ⟨b,1,none⟩ y').setCell ⟨b,2,none⟩ z') p l:=by
 obtain ⟨⟨h1,a,g,o,c,rfl,h2,h3⟩,h0⟩:=h
 refine ⟨⟨h1,a,g,o,c,rfl,fun hp=>⟨(h2 hp).1,by simpa [World.setCell] using (h2 hp).2⟩,fun j v hj=>?_⟩,h0⟩
 have hp:0<l.length:=by
  rcases Nat.eq_zero_or_pos l.length with h9|h9
  ·rw[List.length_eq_zero_iff.1 h9] at hj;cases hj
  ·exact h9
 have hne:g≠b:=fun e=>by
  subst e
  have h5:=h3 _ _ (cellsA_at l 0 hp).2.2.2
  rw[World.cell?] at h5
  simp[hb] at h5
 rw[World.cell?_of_block (w:=w) (by rw[Below.heap_setCell _ _ _ _ hne,Below.heap_setCell _ _ _ _ hne,Below.heap_setCell _ _ _ _ hne])]
 exact h3 j v hj
theorem firstG_at:∀ {l:List An} {g:Int} {j:Nat},j<l.length→(∀ i,i<j→(l.getD i an0).g≠g)→(l.getD j an0).g=g→firstG g l=some j
 |[],_,j,h,_,_=>absurd h (Nat.not_lt_zero _)
 |x :: r,g,0,_,_,h=>by rw[firstG,if_pos (by simpa using h)]
 |x :: r,g,j+1,hj,hi,h=>by
  rw[firstG,if_neg (by have:=hi 0 (by omega);simpa using this),firstG_at (j:=j) (by simpa using hj) (fun i hij=>by simpa using hi (i+1) (by omega)) (by simpa using h)]
  rfl
theorem firstG_none:∀ {l:List An} {g:Int},(∀ i,i<l.length→(l.getD i an0).g≠g)→firstG g l=none
 |[],_,_=>rfl
 |x :: r,g,h=>by
  rw[firstG,if_neg (by have:=h 0 (by simp);simpa using this),firstG_none (fun i hi=>by simpa using h (i+1) (by simpa using hi))]
  rfl
theorem wo_at {l:List An} {g:Int} {j:Nat} (hj:j<l.length) (hi:∀ i,i<j→(l.getD i an0).g≠g) (h:(l.getD j an0).g=g) (v:Int) (sp:ByteArray):without ⟨v,sp,l⟩ g=next ⟨v,sp,l⟩ (l.take j++l.drop (j+1)):=by
 unfold without
 rw[firstG_at hj hi h]
theorem wo_none {l:List An} {g:Int} (h:∀ i,i<l.length→(l.getD i an0).g≠g) (v:Int) (sp:ByteArray):without ⟨v,sp,l⟩ g=(18,bd0):=by
 unfold without
 rw[firstG_none h]
theorem own_not {w:World} {base:Nat} {e:TypeId} {sz:Nat} {v:Value} {n:Nat} {xs:List Value} (h:w.ownsRow base e sz v n xs) {b:Nat} {cs:Array Value} {t:TypeId} {fr:Nat×Nat} (hb:w.heap[b]?=some (.cells cs t fr)) (hne:t≠e):some b≠v.ownBlock:=fun hk=>by
 rcases h.2 with ⟨h1,_⟩|⟨g,_,_,h1,_,h2,_⟩
 ·rw[h1] at hk;cases hk
 ·rw[h1] at hk
  obtain rfl:b=g:=Option.some.inj hk
  rw[h2] at hb
  simp only[Option.some.injEq,Obj.cells.injEq] at hb
  exact hne hb.2.1.symm
theorem results_row1 {P:Program} {fn:Func} {p:Tmp} {ty:TypeId} (h:fn.results=#[.cell p ty]) (tmps:Array Value) (w:World) (g:Nat) (t:TypeId) (cs:Array Value) (fr:Nat×Nat) (d:TypeDesc)
  (hp:tmps.getD p undef=.pointer (some ⟨g,0,none⟩)) (hg:w.heap[g]?=some (.cells cs t fr)) (hu:P.underlying ty=some d) (hd:(match d with | .struct _ | .array _ _=>true|_=>false)=true) (hi:(P.info? ty).map (·.size)=some cs.size):(results fn tmps).run P w=.ok (.agg cs) w:=by
 have hl:=run_loadVar_row (P:=P) w g t ty cs fr d hg hu hd hi
 have hp':tmps[p]?.getD undef=.pointer (some ⟨g,0,none⟩):=by simpa using hp
 simp[results,h,hp',asAddr,hl,Result.andThen]
theorem ofB_any (v:Int) (sp:ByteArray) (a:Value) (l:List An) (w:World) (hA:Ans w a l) (hl:l.length≤2000) :
  Calls Tryz.prog 7 #[.agg #[.int .i64 v,.string sp,a]] w fun e w'=>∃ p,e=.returned (.agg #[.int .i64 v,.string sp,p])∧Ans w' p l∧Fits p∧w.grownBy w' none:=by
 have hI:=rbd_info
 have hIa:=an_info
 have hIf:=ran_full
 obtain ⟨w1,hw1⟩:∃ w1,w1=((w.alloc (.cells #[.int .i64 v,.string sp,a] 24)).alloc (.cells #[.int .i64 0,.string ⟨#[]⟩,.slice none 0 0] 34)).alloc (.cells #[.int .i64 v,.string sp,.slice none 0 0] 34):=⟨_,rfl⟩
 have hg1:w.grownBy w1 none:=by rw[hw1];exact grown_alloc (grown_alloc (World.grownBy_alloc _ _ _) _) _
 have b0:w1.heap[w.heap.size]?=some (.cells #[.int .i64 v,.string sp,a] 24 (0,0)):=by rw[hw1];exact alloc_keep (alloc2_old _ _ _)
 have b1:w1.heap[w.heap.size+1]?=some (.cells #[.int .i64 0,.string ⟨#[]⟩,.slice none 0 0] 34 (0,0)):=by rw[hw1];exact alloc_keep (alloc2_new _ _ _)
 have b2:w1.heap[w.heap.size+1+1]?=some (.cells #[.int .i64 v,.string sp,.slice none 0 0] 34 (0,0)):=by
  rw[hw1]
  have:=alloc_at ((w.alloc (.cells #[.int .i64 v,.string sp,a] 24)).alloc (.cells #[.int .i64 0,.string ⟨#[]⟩,.slice none 0 0] 34)) (.cells #[.int .i64 v,.string sp,.slice none 0 0] 34)
  rw[alloc_size,alloc_size] at this;exact this
 obtain ⟨a1,g1,s1,c1,rfl,ha1,_,hx1⟩:=hA.form
 have HX1:=hid (Ans.cells_at ha1 hx1)
 have HTk:=hid (fun j (hj:j<l.length)=>take_snoc hj)
 have HTa:Hid (l.take l.length=l):=hid (List.take_length)
 obtain ⟨N,hN⟩:∃ N,N=l.length:=⟨_,rfl⟩
 have HA1:Hid (0<N→a1=some ⟨g1,s1,none⟩):=hid (fun h=>(ha1 (by omega)).1)
 rw[←hN] at HX1 HTk HTa b0 hw1 hl ⊢
 have HO1:Hid (w1.ownsRow w.heap.size 43 4 (.slice none 0 0) 0 (cellsA (l.take 0))):=hid (by rw[List.take_zero];exact World.ownsRow_nil _ _ _ _)
 have HB0:=hid b0
 have HB1:=hid b1
 have HB2:=hid b2
 have HG1:=hid hg1
 have HW1:=hid hw1
 have d0:=cell_blk b0 0 rfl
 have d1:=cell_blk b0 1 rfl
 have d2:=cell_blk b0 2 rfl
 clear hA ha1 hx1 hN hg1 b0 b1 b2
 go_enter Tryz.func7,Tryz.ntmps7
 go_wp2
 rw[←HW1.out]
 clear hw1
 go_loopw [14] (fun i wr=>∃ (j:Nat) (o:Value),j≤N∧i=.int .i64 (j:Int)∧w.grownBy wr none∧wr.heap[w.heap.size]?=some (.cells #[.int .i64 v,.string sp,.slice a1 N c1] 24 (0,0))∧wr.heap[w.heap.size+1]?=some (.cells #[.int .i64 0,.string ⟨#[]⟩,.slice none 0 0] 34 (0,0))∧wr.heap[w.heap.size+1+1]?=some (.cells #[.int .i64 v,.string sp,o] 34 (0,0))∧wr.ownsRow w.heap.size 43 4 o j (cellsA (l.take j))) (fun i _=>N-(intOf i).toNat)
 case atStart=>exact ⟨0,_,Nat.zero_le _,rfl,HG1.out,HB0.out,HB1.out,HB2.out,HO1.out⟩
 case round =>
  obtain ⟨j,o,hj,rfl,hg,hb0,hb1,hb2,ho⟩:=hrel
  have HG:=hid hg
  have HR0:=hid hb0
  have HR1:=hid hb1
  have HR2:=hid hb2
  have HO:=hid ho
  obtain ⟨oa,og,oc,rfl,-⟩:=own_formN ho
  clear hg hb0 hb1 hb2 ho d0 d1 d2
  by_cases hjN:j<N
  ·obtain ⟨x0,x1,x2,x3⟩:=HX1.out wr HG.out j hjN
   obtain rfl:=HA1.out (by omega)
   have HTj:=hid (HTk.out j hjN)
   obtain ⟨x,hx⟩:∃ x,x=l.getD j an0:=⟨_,rfl⟩
   rw[←hx] at x0 x1 x2 x3 HTj
   obtain ⟨xg,hxg⟩:∃ xg,xg=x.g:=⟨_,rfl⟩
   obtain ⟨xk,hxk⟩:∃ xk,xk=x.k:=⟨_,rfl⟩
   obtain ⟨xf,hxf⟩:∃ xf,xf=x.f:=⟨_,rfl⟩
   obtain ⟨xt,hxt⟩:∃ xt,xt=x.t:=⟨_,rfl⟩
   have HXe:Hid (x=⟨xg,xk,xf,xt⟩):=hid (by rw[hxg,hxk,hxf,hxt])
   rw[←hxg] at x0
   rw[←hxk] at x1
   rw[←hxf] at x2
   rw[←hxt] at x3
   clear hxg hxk hxf hxt hx
   obtain ⟨w4,hw4⟩:∃ w4,w4=wr.alloc (.cells #[.int .i64 xg,.string xk,.int .i64 xf,.int .i64 xt] 48):=⟨_,rfl⟩
   have HB4:Hid (w4.heap[wr.heap.size]?=some (.cells #[.int .i64 xg,.string xk,.int .i64 xf,.int .i64 xt] 48 (0,0))):=hid (by rw[hw4];exact alloc_at _ _)
   have HG4:Hid (wr.grownBy w4 none):=hid (by rw[hw4];exact World.grownBy_alloc _ _ _)
   have hr2:w4.heap[w.heap.size+1+1]?=some (.cells #[.int .i64 v,.string sp,.slice oa j oc] 34 (0,0)):=by rw[hw4];exact alloc_keep HR2.out
   have HW4:=hid hw4
   have e2:=cell_blk hr2 2 rfl
   rw[hw4] at e2
   clear hw4 hr2
   go_wp2_with (first
    |(rw[←HW4.out];refine wpList_load_row (by rfl) 48 (.tmp 5) (by rfl) wr.heap.size (by rfl) 48 #[.int .i64 xg,.string xk,.int .i64 xf,.int .i64 xt] (0,0) _ HB4.out Tryz.underlying48 rfl hIa ?_)
    |(at_builtin;refine wpList_appN3 (by rfl) (.tmp 19) (.tmp 21) 32 (by rfl) w.heap.size 43 (.agg #[.int .i64 0,.string ⟨#[]⟩,.int .i64 0,.int .i64 0]) 4 40 Tryz.underlying32 hIf rfl (by decide) (by decide) _ _ _ (by rfl) ((HO.out.kept HG4.out (Classical.em _)).alloc _) _ _ _ (by rfl) (Ans.lit (x:=⟨xg,xk,xf,xt⟩) (alloc_at _ _)).1 (Whole0.some _ _ _) (cellsA_one _) (by simp;omega) (grown_alloc (grown_trans HG.out HG4.out) _).size ?_;intro v5 w5 ho hg _;have HO5:=hid ho;have G5:=hid hg;have HG5:Hid (w.grownBy w5 none):=hid (grown_own (grown_alloc (grown_trans HG.out HG4.out) _) ((HO.out.kept HG4.out (Classical.em _)).alloc _) (Nat.le_refl _) hg);have hkeep:=(fun (b:Nat) (cs:Array Value) (t:TypeId) (h:wr.heap[b]?=some (.cells cs t (0,0))) (hne:t≠43)=>(G5.out.block b (blk_lt (alloc_keep (hold_b3 h HG4.out))) (own_not HO.out h hne)).trans (alloc_keep (hold_b3 h HG4.out)));have R0:=hid (hkeep _ _ _ HR0.out (by decide));have R1:=hid (hkeep _ _ _ HR1.out (by decide));have R2:=hid (hkeep _ _ _ HR2.out (by decide));have y2:=free_blk R2.out 2;have z2:=cell_blk R2.out 2 rfl;obtain ⟨oa',og',oc',rfl,-⟩:=own_formN ho;clear ho hg hkeep))
   have HF:Hid (∀ V,V=w5.setCell ⟨w.heap.size+1+1,2,none⟩ (.slice oa' (j+1) oc')→w.grownBy V none∧V.heap[w.heap.size]?=some (.cells #[.int .i64 v,.string sp,.slice (some ⟨g1,s1,none⟩) N c1] 24 (0,0))∧V.heap[w.heap.size+1]?=some (.cells #[.int .i64 0,.string ⟨#[]⟩,.slice none 0 0] 34 (0,0))∧V.heap[w.heap.size+1+1]?=some (.cells #[.int .i64 v,.string sp,.slice oa' (j+1) oc'] 34 (0,0))∧V.ownsRow w.heap.size 43 4 (.slice oa' (j+1) oc') (j+1) (cellsA (l.take (j+1)))):=hid (fun V hV=>by
    subst hV
    refine ⟨grown_set HG5.out (.inl (show w.heap.size≤w.heap.size+1+1 from by omega)) _,(Below.heap_setCell _ _ _ _ (by show w.heap.size≠w.heap.size+1+1;omega)).trans R0.out,(Below.heap_setCell _ _ _ _ (by show w.heap.size+1≠w.heap.size+1+1;omega)).trans R1.out,by simpa using setCell_heap (i:=2) R2.out (.slice oa' (j+1) oc'),?_⟩
    have h5:w5.ownsRow w.heap.size 43 4 (.slice oa' (j+1) oc') (j+1) (cellsA (l.take (j+1))):=by
     rw[HTj.out,cellsA_app,HXe.out]
     exact HO5.out
    exact h5.kept (row:=some (w.heap.size+1+1)) (grown_set (grown_refl _ _) (.inr rfl) _) (.inr (fun e=>own_not h5 R2.out (by decide) e.symm)))
   go_roundw
   case rel =>
    obtain ⟨k1,k2,k3,k4,k5⟩:=HF.out _ rfl
    exact ⟨j+1,_,by omega,by go_num,k1,k2,k3,k4,k5⟩
   case measure=>simp[intOf] <;> omega
  ·obtain rfl:j=N:=by omega
   rw[HTa.out] at HO
   have z0:=cell_blk HR1.out 0 rfl
   have z1:=cell_blk HR1.out 1 rfl
   have z2:=cell_blk HR1.out 2 rfl
   have y0:=free_blk HR1.out 0
   have y1:=free_blk HR1.out 1
   have y2:=free_blk HR1.out 2
   go_wp2_with (refine wpList_load_row (by rfl) 34 (.tmp 3) (by rfl) (w.heap.size+1+1) (by rfl) 34 #[.int .i64 v,.string sp,.slice oa j oc] (0,0) _ HR2.out Tryz.underlying34 rfl hI ?_)
   have HY:=hid HO.out
   refine bodyPost_ret (v:=.agg #[.int .i64 v,.string sp,.slice oa j oc]) ?_ rfl ⟨_,rfl,((Ans.own HY.out).2.set3 HR1.out),Fits.own HY.out,grown_set (grown_set (grown_set HG.out (.inl (Nat.le_succ _)) _) (.inl (Nat.le_succ _)) _) (.inl (Nat.le_succ _)) _⟩
   exact results_row1 Tryz.results7 _ _ (w.heap.size+1) _ _ (0,0) _ rfl (set3 HR1.out) Tryz.underlying34 rfl hI
def longB (sp:ByteArray) (l:List An):Bool:=decide (100<sp.size)||(decide (20<l.length)||l.any (fun x=>decide (100<x.k.size)))
theorem longB_any (v:Int) (sp:ByteArray) (a:Value) (l:List An) (w:World) (hA:Ans w a l) :
  Calls Tryz.prog 5 #[.agg #[.int .i64 v,.string sp,a]] w fun e w'=>e=.returned (.bool (longB sp l))∧w.grownBy w' none:=by
 obtain ⟨w1,hw1⟩:∃ w1,w1=w.alloc (.cells #[.int .i64 v,.string sp,a] 24):=⟨_,rfl⟩
 have hg1:w.grownBy w1 none:=by rw[hw1];exact World.grownBy_alloc _ _ _
 have b0:w1.heap[w.heap.size]?=some (.cells #[.int .i64 v,.string sp,a] 24 (0,0)):=by rw[hw1];exact alloc_at _ _
 obtain ⟨a1,g1,s1,c1,rfl,ha1,_,hx1⟩:=(hA.grown hg1).form
 have HX1:=hid (Ans.cells_at ha1 hx1)
 obtain ⟨V,hV⟩:∃ V,V=longB sp l:=⟨_,rfl⟩
 rw[←hV]
 unfold longB at hV
 have HAny:Hid (∀ j,j<l.length→100<(l.getD j an0).k.size→l.any (fun x=>decide (100<x.k.size))=true):=hid (fun j hj h=>by
  rw[List.any_eq_true]
  refine ⟨l.getD j an0,?_,decide_eq_true h⟩
  rw[List.getD_eq_getElem?_getD,List.getElem?_eq_getElem hj]
  exact List.getElem_mem _)
 have HNo:Hid ((∀ j,j<l.length→¬ 100<(l.getD j an0).k.size)→l.any (fun x=>decide (100<x.k.size))=false):=hid (fun h=>by
  rw[List.any_eq_false]
  intro y hy
  obtain ⟨i,hi,rfl⟩:=List.mem_iff_getElem.1 hy
  have:=h i hi
  rw[List.getD_eq_getElem?_getD,List.getElem?_eq_getElem hi] at this
  replace this:¬ 100<l[i].k.size:=this
  rw[decide_eq_false this]
  decide)
 obtain ⟨N,hN⟩:∃ N,N=l.length:=⟨_,rfl⟩
 have HA1:Hid (0<N→a1=some ⟨g1,s1,none⟩):=hid (fun h=>(ha1 (by omega)).1)
 rw[←hN] at HX1 hV HAny HNo b0 hw1 ⊢
 have HV:=hid hV
 have HW1:=hid hw1
 have HG1:=hid hg1
 have d1:=cell_blk b0 1 rfl
 have d2:=cell_blk b0 2 rfl
 rw[hw1] at d1 d2
 clear hA hw1 hg1 b0 ha1 hx1 hN hV
 by_cases hsp:100<sp.size
 ·have hs2:(100:Int)<(sp.size:Int):=by omega
  have HVt:Hid (V=true):=hid (by rw[HV.out,decide_eq_true hsp,Bool.true_or])
  go_enter Tryz.func5,Tryz.ntmps5
  go_wp2
  go_ret
  exact ⟨by rw[HVt.out];first|done|rfl,by rw[←HW1.out];exact HG1.out⟩
 have hs2:¬ (100:Int)<(sp.size:Int):=by omega
 by_cases hN:20<N
 ·have hN2:(20:Int)<(N:Int):=by omega
  have HVt:Hid (V=true):=hid (by rw[HV.out,decide_eq_true hN,Bool.true_or,Bool.or_true])
  go_enter Tryz.func5,Tryz.ntmps5
  go_wp2
  go_ret
  exact ⟨by rw[HVt.out];first|done|rfl,by rw[←HW1.out];exact HG1.out⟩
 have hN2:¬ (20:Int)<(N:Int):=by omega
 have HVr:Hid (V=l.any (fun x=>decide (100<x.k.size))):=hid (by rw[HV.out,decide_eq_false hsp,decide_eq_false hN,Bool.false_or,Bool.false_or])
 go_enter Tryz.func5,Tryz.ntmps5
 go_wp2
 rw[←HW1.out]
 go_loopw [18] (fun i wr=>∃ j:Nat,j≤N∧i=.int .i64 (j:Int)∧w1.grownBy wr none∧∀ i,i<j→¬ 100<(l.getD i an0).k.size) (fun i _=>N-(intOf i).toNat)
 case atStart=>exact ⟨0,Nat.zero_le _,rfl,grown_refl _ _,fun j hj=>absurd hj (Nat.not_lt_zero _)⟩
 case round =>
  obtain ⟨j,hj,rfl,hg,h0⟩:=hrel
  have HG:=hid hg
  have H0:=hid h0
  clear hg h0 d1 d2
  by_cases hjN:j<N
  ·obtain ⟨x0,x1,x2,x3⟩:=HX1.out wr HG.out j hjN
   obtain rfl:=HA1.out (by omega)
   have HY:Hid (100<(l.getD j an0).k.size→V=true):=hid (fun h=>by rw[HVr.out];exact HAny.out j hjN h)
   have HS:Hid (¬ 100<(l.getD j an0).k.size→∀ i,i<j+1→¬ 100<(l.getD i an0).k.size):=hid (fun h i hi=>by
    rcases Nat.lt_or_ge i j with h1|h1
    ·exact H0.out i h1
    ·obtain rfl:i=j:=by omega
     exact h)
   generalize (l.getD j an0).g=p1 at *
   generalize (l.getD j an0).k=p2 at *
   generalize (l.getD j an0).f=p3 at *
   generalize (l.getD j an0).t=p4 at *
   have HGn:=hid (grown_alloc HG.out (.cells #[.int .i64 p1,.string p2,.int .i64 p3,.int .i64 p4] 48))
   by_cases hp:100<p2.size
   ·have hp2:(100:Int)<(p2.size:Int):=by omega
    have HVt:=hid (HY.out hp)
    go_wp2
    go_ret
    exact ⟨by rw[HVt.out];first|done|rfl,grown_trans HG1.out HGn.out⟩
   ·have hp2:¬ (100:Int)<(p2.size:Int):=by omega
    have HN2:=hid (HS.out hp)
    go_wp2
    go_roundw
    case rel=>exact ⟨j+1,by omega,by go_num,HGn.out,HN2.out⟩
    case measure=>simp[intOf] <;> omega
  ·obtain rfl:j=N:=by omega
   have HVf:Hid (V=false):=hid (by rw[HVr.out];exact HNo.out H0.out)
   go_wp2
   go_ret
   exact ⟨by rw[HVf.out];first|done|rfl,grown_trans HG1.out HG.out⟩
end Go.Proofs.YtjjbkpjjmbfdhaaGreatDoor
namespace Go.Proofs.YtjjbkpjjmbfdhaaGreatDoor
open Lib (hid)
open Go.RowKit
theorem neqbool_val {P:Program} {a:Act} {o:Oper} {w:World} {t r:TypeId} {x y:Operand} {b:Bool} (ho:o.op=.binOp .neq t x y r) (hx:a.eval x=.bool b) (hy:a.eval y=.bool b) (h:∀ w,(do eqGuard .neq t x y (.bool b) (.bool b);binOp .neq t (.bool b) (.bool b):Sem Value).run P w=.ok (.bool false) w):(execOp a.eval o).run P w=.ok (.value (.bool false)) w:=by
 have h':=h w
 simp only[execOp,ho,hx,hy]
 rw[Sem.run_bind,h']
 simp[Result.andThen,Sem.run_pure]
theorem boolNe (x y:Operand) (b:Bool) (w:World):(do eqGuard .neq 4 x y (.bool b) (.bool b);binOp .neq 4 (.bool b) (.bool b):Sem Value).run Tryz.prog w=.ok (.bool false) w:=by cases b <;> simp[go_sem]
noncomputable def bb_region7C:Code:=regionIn Tryz.f3.body 7
theorem bb_region7 (a:Act) (b1 b5:Nat) (DB DW:Array Value) (R:Bool) (W w:World) (Q:Exit→Act→World→Prop) (hsz:a.tmps.size=89)
  (h1:a.eval (.tmp 1)=.pointer (some ⟨b1,0,none⟩))
  (h5:a.eval (.tmp 5)=.pointer (some ⟨b5,0,none⟩))
  (hR:∀ w,W.grownBy w none→Calls Tryz.prog 8 #[.agg DB] w fun e w'=>∃ v,e=.returned v∧w.grownBy w' none∧isV (.bool R) v w')
  (hD:∀ w,W.grownBy w none→Calls Tryz.prog 9 #[.agg DW] w fun e w'=>∃ v,e=.returned v∧w.grownBy w' none∧isV (.bool R) v w')
  (hS:∀ w,W.grownBy w none→Calls Tryz.prog 10 #[.agg DB,.agg DB] w fun e w'=>∃ v,e=.returned v∧w.grownBy w' none∧isV (.bool true) v w')
  (h1r:∀ w,W.grownBy w none→w.heap[b1]?=some (.cells DB 24 (0,0)))
  (h5r:∀ w,W.grownBy w none→w.heap[b5]?=some (.cells DW 34 (0,0)))
  (hIB:(Tryz.prog.info? 24).map (·.size)=some DB.size)
  (hIW:(Tryz.prog.info? 34).map (·.size)=some DW.size)
  (hw:W.grownBy { w with drawn:=w.drawn+1 } none)
  (hQ:∀ us w',W.grownBy w' none→Q .normal ((fill a [22,23,24,25,26,27,28,29,30,31] us).put (some 32) (.bool false)) w'):bb_region7C.wp Tryz.prog Q a w:=by
 have hst:StaysAll [isV (.agg DB),isV (.bool R),isV (.agg DW),isV (.bool R),isV (.bool false),isV (.bool false),isV (.agg DB),isV (.agg DB),isV (.bool true),isV (.bool false)]:=⟨stays_V _,stays_V _,stays_V _,stays_V _,stays_V _,stays_V _,stays_V _,stays_V _,stays_V _,stays_V _,trivial⟩
 conv=>arg 2;whnf
 refine wp_region_flow 10 [22,23,24,25,26,27,28,29,30,31] (fun w'=>W.grownBy w' none) (fun w w'=>w.grownBy w' none) (flF [isV (.agg DB),isV (.bool R),isV (.agg DW),isV (.bool R),isV (.bool false),isV (.bool false),isV (.agg DB),isV (.agg DB),isV (.bool true),isV (.bool false)]) (by kernel_rfl) (by kernel_rfl) (fun _ _ h k=>grown_trans k h) (fun j x w w' hg h=>flF_stays hst j x w w' hg h) hw ?_ ?_
 ·refine ⟨?_,?_,?_,?_,?_,?_,?_,?_,?_,?_,trivial⟩
  ·exact flow_step (fun us w hC hd=>wants_free rfl) (fun us w hC hd=>⟨_,w,load_val rfl ((fill_old (by rfl)).trans h1) (h1r w hC) Tryz.underlying24 rfl hIB,grown_refl _ _,rfl⟩)
  ·refine flow_call 8 (fun us=>#[us 22]) (fun us w hC hd=>wants_free rfl) (fun us w=>by rw[call_enter rfl (fun _ _=>by simp[go_sem]),List.map_toArray,List.map_cons,List.map_nil,fill_tmp (by rfl) (by rw[hsz];decide)]) (fun us w hC' hd=>?_)
   rw[show us 22=.agg DB from hd 0 (by decide)]
   exact hR w hC'
  ·exact flow_step (fun us w hC hd=>wants_free rfl) (fun us w hC hd=>⟨_,w,load_val rfl ((fill_old (by rfl)).trans h5) (h5r w hC) Tryz.underlying34 rfl hIW,grown_refl _ _,rfl⟩)
  ·refine flow_call 9 (fun us=>#[us 24]) (fun us w hC hd=>wants_free rfl) (fun us w=>by rw[call_enter rfl (fun _ _=>by simp[go_sem]),List.map_toArray,List.map_cons,List.map_nil,fill_tmp (by rfl) (by rw[hsz];decide)]) (fun us w hC' hd=>?_)
   rw[show us 24=.agg DW from hd 2 (by decide)]
   exact hD w hC'
  ·exact flow_step (fun us w hC hd=>wants_free rfl) (fun us w hC hd=>⟨_,w,neqbool_val rfl ((fill_tmp (by rfl) (by rw[hsz];decide)).trans (hd 1 (by decide))) ((fill_tmp (by rfl) (by rw[hsz];decide)).trans (hd 3 (by decide))) (boolNe _ _ _),grown_refl _ _,rfl⟩)
  ·exact flow_step (fun us w hC hd=>wants_free rfl) (fun us w hC hd=>⟨_,w,move_val rfl ((fill_tmp (by rfl) (by rw[hsz];decide)).trans (hd 4 (by decide))),grown_refl _ _,rfl⟩)
  ·exact flow_step (fun us w hC hd=>wants_on (d:=27) (b:=false) rfl rfl (by rfl) (by rw[hsz];decide) (hd 5 (by decide))) (fun us w hC hd=>⟨_,w,load_val rfl ((fill_old (by rfl)).trans h1) (h1r w hC) Tryz.underlying24 rfl hIB,grown_refl _ _,rfl⟩)
  ·exact flow_step (fun us w hC hd=>wants_on (d:=27) (b:=false) rfl rfl (by rfl) (by rw[hsz];decide) (hd 5 (by decide))) (fun us w hC hd=>⟨_,w,load_val rfl ((fill_old (by rfl)).trans h1) (h1r w hC) Tryz.underlying24 rfl hIB,grown_refl _ _,rfl⟩)
  ·refine flow_call 10 (fun us=>#[us 28,us 29]) (fun us w hC hd=>wants_on (d:=27) (b:=false) rfl rfl (by rfl) (by rw[hsz];decide) (hd 5 (by decide))) (fun us w=>by rw[call_enter rfl (fun _ _=>by simp[go_sem]),List.map_toArray,List.map_cons,List.map_cons,List.map_nil,fill_tmp (by rfl) (by rw[hsz];decide),fill_tmp (by rfl) (by rw[hsz];decide)]) (fun us w hC' hd=>?_)
   rw[show us 28=.agg DB from hd 6 (by decide)]
   rw[show us 29=.agg DB from hd 7 (by decide)]
   exact hS w hC'
  ·exact flow_step (fun us w hC hd=>wants_on (d:=27) (b:=false) rfl rfl (by rfl) (by rw[hsz];decide) (hd 5 (by decide))) (fun us w hC hd=>⟨_,w,not_val rfl ((fill_tmp (by rfl) (by rw[hsz];decide)).trans (hd 8 (by decide))),grown_refl _ _,rfl⟩)
 ·intro us w' hC' hd
  exact wpList_last rfl (pick_false rfl ((fill_tmp (by rfl) (by rw[hsz];decide)).trans (hd 5 (by decide))) ((fill_tmp (by rfl) (by rw[hsz];decide)).trans (hd 9 (by decide)))) (hQ us w' hC')
noncomputable def bb_region18C:Code:=regionIn Tryz.f3.body 18
theorem bb_region18 (a:Act) (b1 b5 b6 n:Nat) (DB DW DK:Array Value) (BD:Bu.Bd) (L:List Nat) (LI:List Int) (xa ga:Option Addr) (xn xc gn gc:Nat) (S:ByteArray) (W w:World) (Q:Exit→Act→World→Prop) (hsz:a.tmps.size=89)
  (h1:a.eval (.tmp 1)=.pointer (some ⟨b1,0,none⟩))
  (h5:a.eval (.tmp 5)=.pointer (some ⟨b5,0,none⟩))
  (h6:a.eval (.tmp 6)=.pointer (some ⟨b6,0,none⟩))
  (h3:a.eval (.tmp 3)=.slice xa xn xc)
  (h4:a.eval (.tmp 4)=.nilIface)
  (h7:a.eval (.tmp 7)=.nilIface)
  (h8:a.eval (.tmp 8)=.slice ga gn gc)
  (hY:∀ w,W.grownBy w none→Calls Tryz.prog 13 #[.agg DW] w fun e w'=>∃ v,e=.returned v∧w.grownBy w' none∧isB L v w')
  (hO:∀ w,W.grownBy w none→Calls Tryz.prog 7 #[.agg DK] w fun e w'=>∃ v,e=.returned v∧w.grownBy w' none∧isD BD v w')
  (hS:∀ w u,W.grownBy w none→isD BD u w→Calls Tryz.prog 14 #[u,.agg DW] w fun e w'=>∃ v,e=.returned v∧w.grownBy w' none∧isV (.bool true) v w')
  (hG:∀ w,W.grownBy w none→Calls Tryz.prog 16 #[.agg DB] w fun e w'=>∃ v,e=.returned v∧w.grownBy w' none∧isIz LI v w')
  (hI:∀ w u,W.grownBy w none→isIz LI u w→Calls Tryz.prog 15 #[u,.slice ga gn gc] w fun e w'=>∃ x,e=.returned x∧w.grownBy w' none∧isV (.bool true) x w')
  (hSa:∀ w,W.grownBy w none→(convert 27 9 (.slice xa xn xc)).run Tryz.prog w=.ok (.string S) w)
  (hSu:∀ (w:World) (v:Value),isB L v w→(convert 27 9 v).run Tryz.prog w=.ok (.string S) w)
  (h1r:∀ w,W.grownBy w none→w.heap[b1]?=some (.cells DB 24 (0,0)))
  (h5r:∀ w,W.grownBy w none→w.heap[b5]?=some (.cells DW 34 (0,0)))
  (h6r:∀ w,W.grownBy w none→w.heap[b6]?=some (.cells DK 24 (0,0)))
  (hIB:(Tryz.prog.info? 24).map (·.size)=some DB.size)
  (hIW:(Tryz.prog.info? 34).map (·.size)=some DW.size)
  (hIK:(Tryz.prog.info? 24).map (·.size)=some DK.size)
  (hw:W.grownBy { w with drawn:=w.drawn+1 } none)
  (hQ:∀ us w',W.grownBy w' none→Q .normal ((fill a [63,64,65,66,67,68,69,70,71,72,73,74,75,76,77,78,79,80,81,82,83,84,85,86,87,88] us).put (some 2) (.bool true)) w'):bb_region18C.wp Tryz.prog Q a w:=by
 have hst:StaysAll [isV (.nilIface),isV (.bool true),isV (.bool true),isV (.slice xa xn xc),isV (.string S),isV (.agg DW),isB L,isV (.string S),isV (.bool true),isV (.bool true),isV (.bool true),isV (.nilIface),isV (.bool true),isV (.bool true),isV (.bool true),isV (.agg DK),isD BD,isV (.agg DW),isV (.bool true),isV (.bool true),isV (.bool true),isV (.agg DB),isIz LI,isV (.slice ga gn gc),isV (.bool true),isV (.bool true)]:=⟨stays_V _,stays_V _,stays_V _,stays_V _,stays_V _,stays_V _,stays_B _,stays_V _,stays_V _,stays_V _,stays_V _,stays_V _,stays_V _,stays_V _,stays_V _,stays_V _,stays_isD _,stays_V _,stays_V _,stays_V _,stays_V _,stays_V _,stays_isIz _,stays_V _,stays_V _,stays_V _,trivial⟩
 conv=>arg 2;whnf
 refine wp_region_flow 26 [63,64,65,66,67,68,69,70,71,72,73,74,75,76,77,78,79,80,81,82,83,84,85,86,87,88] (fun w'=>W.grownBy w' none) (fun w w'=>w.grownBy w' none) (flF [isV (.nilIface),isV (.bool true),isV (.bool true),isV (.slice xa xn xc),isV (.string S),isV (.agg DW),isB L,isV (.string S),isV (.bool true),isV (.bool true),isV (.bool true),isV (.nilIface),isV (.bool true),isV (.bool true),isV (.bool true),isV (.agg DK),isD BD,isV (.agg DW),isV (.bool true),isV (.bool true),isV (.bool true),isV (.agg DB),isIz LI,isV (.slice ga gn gc),isV (.bool true),isV (.bool true)]) (by kernel_rfl) (by kernel_rfl) (fun _ _ h k=>grown_trans k h) (fun j x w w' hg h=>flF_stays hst j x w w' hg h) hw ?_ ?_
 ·refine ⟨?_,?_,?_,?_,?_,?_,?_,?_,?_,?_,?_,?_,?_,?_,?_,?_,?_,?_,?_,?_,?_,?_,?_,?_,?_,?_,trivial⟩
  ·exact flow_step (fun us w hC hd=>wants_free rfl) (fun us w hC hd=>⟨_,w,move_val rfl ((fill_old (by rfl)).trans h4),grown_refl _ _,rfl⟩)
  ·exact flow_step (fun us w hC hd=>wants_free rfl) (fun us w hC hd=>⟨_,w,eqlnil_val rfl ((fill_tmp (by rfl) (by rw[hsz];decide)).trans (hd 0 (by decide))) (nilEq _),grown_refl _ _,rfl⟩)
  ·exact flow_step (fun us w hC hd=>wants_free rfl) (fun us w hC hd=>⟨_,w,move_val rfl ((fill_tmp (by rfl) (by rw[hsz];decide)).trans (hd 1 (by decide))),grown_refl _ _,rfl⟩)
  ·exact flow_step (fun us w hC hd=>wants_on (d:=65) (b:=true) rfl rfl (by rfl) (by rw[hsz];decide) (hd 2 (by decide))) (fun us w hC hd=>⟨_,w,move_val rfl ((fill_old (by rfl)).trans h3),grown_refl _ _,rfl⟩)
  ·exact flow_step (fun us w hC hd=>wants_on (d:=65) (b:=true) rfl rfl (by rfl) (by rw[hsz];decide) (hd 2 (by decide))) (fun us w hC hd=>⟨_,w,conv_val rfl ((fill_tmp (by rfl) (by rw[hsz];decide)).trans (hd 3 (by decide))) (hSa w hC),grown_refl _ _,rfl⟩)
  ·exact flow_step (fun us w hC hd=>wants_on (d:=65) (b:=true) rfl rfl (by rfl) (by rw[hsz];decide) (hd 2 (by decide))) (fun us w hC hd=>⟨_,w,load_val rfl ((fill_old (by rfl)).trans h5) (h5r w hC) Tryz.underlying34 rfl hIW,grown_refl _ _,rfl⟩)
  ·refine flow_call 13 (fun us=>#[us 68]) (fun us w hC hd=>wants_on (d:=65) (b:=true) rfl rfl (by rfl) (by rw[hsz];decide) (hd 2 (by decide))) (fun us w=>by rw[call_enter rfl (fun _ _=>by simp[go_sem]),List.map_toArray,List.map_cons,List.map_nil,fill_tmp (by rfl) (by rw[hsz];decide)]) (fun us w hC' hd=>?_)
   rw[show us 68=.agg DW from hd 5 (by decide)]
   exact hY w hC'
  ·exact flow_step (fun us w hC hd=>wants_on (d:=65) (b:=true) rfl rfl (by rfl) (by rw[hsz];decide) (hd 2 (by decide))) (fun us w hC hd=>⟨_,w,conv_val rfl (fill_tmp (by rfl) (by rw[hsz];decide)) (hSu w _ (hd 6 (by decide))),grown_refl _ _,rfl⟩)
  ·exact flow_step (fun us w hC hd=>wants_on (d:=65) (b:=true) rfl rfl (by rfl) (by rw[hsz];decide) (hd 2 (by decide))) (fun us w hC hd=>⟨_,w,eqlstr_val rfl ((fill_tmp (by rfl) (by rw[hsz];decide)).trans (hd 4 (by decide))) ((fill_tmp (by rfl) (by rw[hsz];decide)).trans (hd 7 (by decide))),grown_refl _ _,rfl⟩)
  ·exact flow_step (fun us w hC hd=>wants_free rfl) (fun us w hC hd=>⟨_,w,pick_true rfl ((fill_tmp (by rfl) (by rw[hsz];decide)).trans (hd 2 (by decide))) ((fill_tmp (by rfl) (by rw[hsz];decide)).trans (hd 8 (by decide))),grown_refl _ _,rfl⟩)
  ·exact flow_step (fun us w hC hd=>wants_free rfl) (fun us w hC hd=>⟨_,w,move_val rfl ((fill_tmp (by rfl) (by rw[hsz];decide)).trans (hd 9 (by decide))),grown_refl _ _,rfl⟩)
  ·exact flow_step (fun us w hC hd=>wants_on (d:=73) (b:=true) rfl rfl (by rfl) (by rw[hsz];decide) (hd 10 (by decide))) (fun us w hC hd=>⟨_,w,move_val rfl ((fill_old (by rfl)).trans h7),grown_refl _ _,rfl⟩)
  ·exact flow_step (fun us w hC hd=>wants_on (d:=73) (b:=true) rfl rfl (by rfl) (by rw[hsz];decide) (hd 10 (by decide))) (fun us w hC hd=>⟨_,w,eqlnil_val rfl ((fill_tmp (by rfl) (by rw[hsz];decide)).trans (hd 11 (by decide))) (nilEq _),grown_refl _ _,rfl⟩)
  ·exact flow_step (fun us w hC hd=>wants_free rfl) (fun us w hC hd=>⟨_,w,pick_true rfl ((fill_tmp (by rfl) (by rw[hsz];decide)).trans (hd 10 (by decide))) ((fill_tmp (by rfl) (by rw[hsz];decide)).trans (hd 12 (by decide))),grown_refl _ _,rfl⟩)
  ·exact flow_step (fun us w hC hd=>wants_free rfl) (fun us w hC hd=>⟨_,w,move_val rfl ((fill_tmp (by rfl) (by rw[hsz];decide)).trans (hd 13 (by decide))),grown_refl _ _,rfl⟩)
  ·exact flow_step (fun us w hC hd=>wants_on (d:=77) (b:=true) rfl rfl (by rfl) (by rw[hsz];decide) (hd 14 (by decide))) (fun us w hC hd=>⟨_,w,load_val rfl ((fill_old (by rfl)).trans h6) (h6r w hC) Tryz.underlying24 rfl hIK,grown_refl _ _,rfl⟩)
  ·refine flow_call 7 (fun us=>#[us 78]) (fun us w hC hd=>wants_on (d:=77) (b:=true) rfl rfl (by rfl) (by rw[hsz];decide) (hd 14 (by decide))) (fun us w=>by rw[call_enter rfl (fun _ _=>by simp[go_sem]),List.map_toArray,List.map_cons,List.map_nil,fill_tmp (by rfl) (by rw[hsz];decide)]) (fun us w hC' hd=>?_)
   rw[show us 78=.agg DK from hd 15 (by decide)]
   exact hO w hC'
  ·exact flow_step (fun us w hC hd=>wants_on (d:=77) (b:=true) rfl rfl (by rfl) (by rw[hsz];decide) (hd 14 (by decide))) (fun us w hC hd=>⟨_,w,load_val rfl ((fill_old (by rfl)).trans h5) (h5r w hC) Tryz.underlying34 rfl hIW,grown_refl _ _,rfl⟩)
  ·refine flow_call 14 (fun us=>#[us 79,us 80]) (fun us w hC hd=>wants_on (d:=77) (b:=true) rfl rfl (by rfl) (by rw[hsz];decide) (hd 14 (by decide))) (fun us w=>by rw[call_enter rfl (fun _ _=>by simp[go_sem]),List.map_toArray,List.map_cons,List.map_cons,List.map_nil,fill_tmp (by rfl) (by rw[hsz];decide),fill_tmp (by rfl) (by rw[hsz];decide)]) (fun us w hC' hd=>?_)
   rw[show us 80=.agg DW from hd 17 (by decide)]
   exact hS w _ hC' (hd 16 (by decide))
  ·exact flow_step (fun us w hC hd=>wants_free rfl) (fun us w hC hd=>⟨_,w,pick_true rfl ((fill_tmp (by rfl) (by rw[hsz];decide)).trans (hd 14 (by decide))) ((fill_tmp (by rfl) (by rw[hsz];decide)).trans (hd 18 (by decide))),grown_refl _ _,rfl⟩)
  ·exact flow_step (fun us w hC hd=>wants_free rfl) (fun us w hC hd=>⟨_,w,move_val rfl ((fill_tmp (by rfl) (by rw[hsz];decide)).trans (hd 19 (by decide))),grown_refl _ _,rfl⟩)
  ·exact flow_step (fun us w hC hd=>wants_on (d:=83) (b:=true) rfl rfl (by rfl) (by rw[hsz];decide) (hd 20 (by decide))) (fun us w hC hd=>⟨_,w,load_val rfl ((fill_old (by rfl)).trans h1) (h1r w hC) Tryz.underlying24 rfl hIB,grown_refl _ _,rfl⟩)
  ·refine flow_call 16 (fun us=>#[us 84]) (fun us w hC hd=>wants_on (d:=83) (b:=true) rfl rfl (by rfl) (by rw[hsz];decide) (hd 20 (by decide))) (fun us w=>by rw[call_enter rfl (fun _ _=>by simp[go_sem]),List.map_toArray,List.map_cons,List.map_nil,fill_tmp (by rfl) (by rw[hsz];decide)]) (fun us w hC' hd=>?_)
   rw[show us 84=.agg DB from hd 21 (by decide)]
   exact hG w hC'
  ·exact flow_step (fun us w hC hd=>wants_on (d:=83) (b:=true) rfl rfl (by rfl) (by rw[hsz];decide) (hd 20 (by decide))) (fun us w hC hd=>⟨_,w,move_val rfl ((fill_old (by rfl)).trans h8),grown_refl _ _,rfl⟩)
  ·refine flow_call 15 (fun us=>#[us 85,us 86]) (fun us w hC hd=>wants_on (d:=83) (b:=true) rfl rfl (by rfl) (by rw[hsz];decide) (hd 20 (by decide))) (fun us w=>by rw[call_enter rfl (fun _ _=>by simp[go_sem]),List.map_toArray,List.map_cons,List.map_cons,List.map_nil,fill_tmp (by rfl) (by rw[hsz];decide),fill_tmp (by rfl) (by rw[hsz];decide)]) (fun us w hC' hd=>?_)
   rw[show us 86=.slice ga gn gc from hd 23 (by decide)]
   exact hI w _ hC' (hd 22 (by decide))
  ·exact flow_step (fun us w hC hd=>wants_free rfl) (fun us w hC hd=>⟨_,w,pick_true rfl ((fill_tmp (by rfl) (by rw[hsz];decide)).trans (hd 20 (by decide))) ((fill_tmp (by rfl) (by rw[hsz];decide)).trans (hd 24 (by decide))),grown_refl _ _,rfl⟩)
 ·intro us w' hC' hd
  exact wpList_last rfl (assign_val rfl ((fill_tmp (by rfl) (by rw[hsz];decide)).trans (hd 25 (by decide)))) (hQ us w' hC')
end Go.Proofs.YtjjbkpjjmbfdhaaGreatDoor
