import Derived.Test.YtijkaknggdaajaaGreatDoorZr02
import Derived.Test.YtijkaknggdaajaaGreatDoorZr14
import Derived.Test.YtijkaknggdaajaaGreatDoorZr15
import Derived.Test.YtijkaknggdaajaaGreatDoorZr21
import Derived.Test.YtijkaknggdaajaaGreatDoorChecked
import Derived.WalkKit
import Derived.OwnWalkIn
import Derived.TacticsInMore
import Derived.LoopNIn
import Derived.LoopIn
import Derived.Lib.Hide
import Derived.Shelf.RegionOpen
import Derived.Maps.AppendAt
set_option linter.unusedVariables false
set_option linter.unusedSimpArgs false
set_option maxRecDepth 100000
set_option maxHeartbeats 1000000
namespace Go.Proofs.YtijkaknggdaajaaGreatDoor
open Lib (hid)
open Go.RowKit
attribute [local go_sem] Oper.semAt_some
def lenC (w:World) (b:Nat):Nat:=match w.cell? ⟨b,0,none⟩ with|some (Value.string t)=>t.size|_=>0
theorem lenC_of {w:World} {b:Nat} {t:TypeId} {s:ByteArray} (h:Boxed w b t (.string s)):lenC w b=s.size:=by unfold lenC;rw[h.cell]
theorem mkFun (fn:Fn) (first cap:Array Value) (w:World):(Instr.makeFunc fn first cap).run Tryz.prog w=.ok (.func fn first cap) w:=rfl
attribute [local go_sem] Oper.semAt_some
def encN (A:Nat→Addr):Except Nat Int→Array Value
 |.ok n=>#[.int .i64 n,.nilIface]
 |.error k=>#[.int .i64 0,errV A k]
theorem encN_two (A:Nat→Addr) (x:Except Nat Int):∃ a b,encN A x=#[a,b]:=by cases x <;> exact ⟨_,_,rfl⟩
attribute [local go_sem] Oper.semAt_some
theorem boxed_app {W w1:World} {n0 B:Nat} {t e:TypeId} {v v':Value} {k m:Nat} {xs ys:List Value} {tmp:Obj}
  (hv:Boxed W B t v) (hte:t≠e) (hrow:W.ownsRow n0 e 1 v k xs) (_:B<n0) (hown':w1.ownsRow n0 e 1 v' m ys) (hgrow:(W.alloc tmp).grownBy w1 v.ownBlock) :
  Boxed w1 B t v∧Boxed (w1.setCell ⟨B,0,none⟩ v') B t v'∧(w1.setCell ⟨B,0,none⟩ v').ownsRow n0 e 1 v' m ys∧∀ p:Nat→Prop,(∀ r,p r→r<n0∧r≠B∧r<W.heap.size)→KeepsP p W (w1.setCell ⟨B,0,none⟩ v'):=by
 have hv1:Boxed w1 B t v:=(hv.alloc tmp).kept hgrow (hv.not_row hte hrow)
 refine ⟨hv1,hv1.set v',hown'.kept (grownBy_setCell' w1 B v') (.inr (hv1.not_row hte hown').symm),fun p hp=>?_⟩
 refine ((KeepsP.grown (World.grownBy_alloc W tmp none) (fun r hr=>⟨(hp r hr).2.2,by simp⟩)).trans (.grown hgrow (fun r hr=>⟨by have:=(hp r hr).2.2;simp;omega,fun e'=>?_⟩))).trans (.grown (grownBy_setCell' w1 B v') (fun r hr=>⟨?_,fun e'=>(hp r hr).2.1 (by cases e';rfl)⟩))
 ·have:=(hrow.lt r e'.symm).1
  have:=(hp r hr).1
  omega
 ·have:=hgrow.size
  have h2:=(hp r hr).2.2
  simp at this
  omega
def GaI (w:World) (n0:Nat) (pre:List (Except Nat Int)) (W:World):Prop :=
 ∃ (v:Value) (l:List Int),pre=l.map .ok∧Boxed W (w.heap.size+1+1) 51 v∧W.ownsRow n0 3 1 v (l.take 17).length (cellsI (l.take 17))∧Boxed W w.heap.size 51 (.slice none 0 0)∧Boxed W (w.heap.size+1) 28 .nilIface∧w.grownBy W none
def GaX (A:Nat→Addr) (w:World) (pre:List (Except Nat Int)) (W:World):Prop :=
 ∃ (l:List Int) (k:Nat),pre=l.map .ok++[.error k]∧Boxed W w.heap.size 51 (.slice none 0 0)∧Boxed W (w.heap.size+1) 28 (errV A k)∧w.grownBy W none
theorem grown_row {w A B:World} {row:Option Nat} (h:w.grownBy A none) (hg:A.grownBy B row) (hr:∀ r,row=some r→w.heap.size≤r):w.grownBy B none :=
 ⟨hg.os.trans h.os,hg.tape.trans h.tape,hg.output.trans h.output,Nat.le_trans h.size hg.size,fun k hk _=>(hg.block k (Nat.lt_of_lt_of_le hk h.size) (fun e=>by have:=hr k e.symm;omega)).trans (h.block k hk (by simp))⟩
theorem grown_keeps {w A B:World} (h:w.grownBy A none) (k:KeepsP (fun r=>r<w.heap.size) A B):w.grownBy B none :=
 ⟨k.os.trans h.os,k.tape.trans h.tape,k.output.trans h.output,Nat.le_trans h.size k.size,fun r hr _=>(k.same r hr).trans (h.block r hr (by simp))⟩
theorem gaI_bears (w:World) (n0:Nat) (p:Nat→Prop) (hp:∀ r,p r→w.heap.size+3≤r∧r<n0):Bears p (GaI w n0):=by
 rintro s A B row ⟨v,l,h1,h2,h3,h4,h5,h6⟩ hg hr
 have hne:∀ k,k<w.heap.size+3→some k≠row:=fun k hk e=>by have:=(hp k (hr k e.symm)).1;omega
 refine ⟨v,l,h1,h2.kept hg (hne _ (by omega)),h3.kept hg (Classical.or_iff_not_imp_left.2 fun _ e=>?_),h4.kept hg (hne _ (by omega)),h5.kept hg (hne _ (by omega)),grown_row h6 hg (fun r e=>by have:=(hp r (hr r e)).1;omega)⟩
 cases hro:row with
 |none=>rw[hro] at e;contradiction
 |some r =>
  have:=(h3.lt r (e.trans hro)).1
  have:=(hp r (hr r hro)).2
  omega
theorem gaX_bears (A:Nat→Addr) (w:World) (p:Nat→Prop) (hp:∀ r,p r→w.heap.size+3≤r):Bears p (GaX A w):=by
 rintro s W1 W2 row ⟨l,k,h1,h4,h5,h6⟩ hg hr
 have hne:∀ k,k<w.heap.size+3→some k≠row:=fun k hk e=>by have:=hp k (hr k e.symm);omega
 exact ⟨l,k,h1,h4.kept hg (hne _ (by omega)),h5.kept hg (hne _ (by omega)),grown_row h6 hg (fun r e=>by have:=hp r (hr r e);omega)⟩
def encV:Except Nat Int→Value
 |.ok n=>.int .i64 n
 |.error _=>.int .i64 0
def encE (A:Nat→Addr):Except Nat Int→Value
 |.ok _=>.nilIface
 |.error k=>errV A k
theorem encN_eq (A:Nat→Addr) (x:Except Nat Int):encN A x=#[encV x,encE A x]:=by cases x <;> rfl
theorem infoInt:(Tryz.prog.info? 3).map (fun i=>(i.zero,i.size,i.bytes))=some (some (.int .i64 0),1,8):=by kernel_rfl
def GaPost (A:Nat→Addr) (w:World) (src:List (Except Nat Int)) (e:Ending) (w':World):Prop :=
 w.grownBy w' none∧match Od.gat src with
  |.ok l=>∃ v,e=.returned (.tuple #[v,.nilIface])∧Ints w' v (l.take 17)∧Whole0 v
  |.error q=>e=.returned (.tuple #[.slice none 0 0,errV A q])
theorem results_ga (tmps:Array Value) (g1 g2:Nat) (v1 v2:Value) (w:World) (h1:tmps[2]?.getD undef=.pointer (some ⟨g1,0,none⟩)) (h2:tmps[3]?.getD undef=.pointer (some ⟨g2,0,none⟩)) (c1:w.cell? ⟨g1,0,none⟩=some v1) (c2:w.cell? ⟨g2,0,none⟩=some v2) :
  (results Tryz.f154 tmps).run Tryz.prog w=.ok (.tuple #[v1,v2]) w:=by
 have h:Tryz.f154.results=#[.cell 2 51,.cell 3 28]:=rfl
 simp only[results,h]
 simp[Sem.run_bind,Result.andThen,h1,h2,asAddr]
 go_simp
theorem gather_any (A:Nat→Addr) (gf:Nat) (lb:Array Value) (k:Nat) (src:List (Except Nat Int)) (w:World) (eg:∀ args w,(callFunc gf args).run Tryz.prog w=.ok (.enter gf args) w)
  (hs:SeqP Tryz.prog gf lb (encN A) (fun _=>False) (fun r=>r<w.heap.size) k src w) :
  Calls Tryz.prog 154 #[.func (.func gf) #[] lb] w (GaPost A w src):=by
 refine (callsIn_wide (n:=5)).1 (callsIn_of_wp_marks Tryz.func154 rfl trivial ?_ rfl)
 simp only[Tryz.ntmps154,List.size_toArray,List.length_cons,List.length_nil,Nat.reduceAdd,Nat.reduceSub,Array.replicate_succ,Array.replicate_zero,List.push_toArray,List.append_toArray,List.nil_append,List.cons_append]
 have HS:=hid hs
 clear hs
 gi_wp2
 obtain ⟨X,hX⟩:∃ X,X=(((w.alloc (.cells #[.slice none 0 0] 51)).alloc (.cells #[.nilIface] 28)).alloc (.cells #[.slice none 0 0] 51)):=⟨_,rfl⟩
 have hs3:X.heap.size=w.heap.size+3:=by rw[hX];simp
 have hg3:w.grownBy X none:=by rw[hX];exact grown_alloc (grown_alloc (grown_alloc (grown_refl _ _) _) _) _
 have b1:Boxed X w.heap.size 51 (.slice none 0 0):=by rw[hX];exact ((Boxed.new w _ _).alloc _).alloc _
 have b2:Boxed X (w.heap.size+1) 28 .nilIface:=by
  rw[hX]
  have:=(Boxed.new (w.alloc (.cells #[.slice none 0 0] 51)) 28 .nilIface).alloc (.cells #[.slice none 0 0] 51)
  simpa using this
 have b3:Boxed X (w.heap.size+1+1) 51 (.slice none 0 0):=by
  rw[hX]
  have:=Boxed.new ((w.alloc (.cells #[.slice none 0 0] 51)).alloc (.cells #[.nilIface] 28)) 51 (.slice none 0 0)
  simpa using this
 rw[←hX]
 clear hX
 obtain ⟨i0,hi,hz0,hz1,hz2⟩:=info_parts infoInt
 refine wpP_rangeFunc (gf:=gf) (lb:=lb) (by rfl) eg (HS.out.later (KeepsP.grown hg3 (fun r hr=>⟨hr,by simp⟩))) (fun x=>by rw[encN_eq];rfl) (fun r h=>h.elim) (fun r h=>by rw[hs3];omega)
  (GaI w (w.heap.size+3+(k+2))) (fun c pre W=>c=.ret∧GaX A w pre W)
  (gaI_bears w _ _ (fun r h=>by rcases h with h|h;exact h.elim;omega)) (fun c s B C row ⟨h1,h2⟩ hg hr=>⟨h1,gaX_bears A w _ (fun r h=>by rcases h with h|h;exact h.elim;omega) s B C row h2 hg hr⟩)
  ⟨_,[],rfl,b3,World.ownsRow_nil _ _ _ _,b1,b2,hg3⟩
  (fun x=>{ tmps:=#[.func (.func gf) #[] lb,undef,.pointer (some ⟨w.heap.size,0,none⟩),.pointer (some ⟨w.heap.size+1,0,none⟩),.pointer (some ⟨w.heap.size+1+1,0,none⟩),encV x,encE A x,.func (.func gf) #[] lb,encV x,encE A x,undef,undef,undef,undef,undef,undef,undef,undef,undef,undef,undef],defers:=[] }) ?assign ?body ?done ?stop
 case assign =>
  intro l x W K hK
  rw[encN_eq]
  gi_wp2
  exact hK
 case body =>
  rintro l pre x W hsz hpre ⟨v,t,h1,h2,h3,h4,h5,h6⟩
  rw[hs3] at hsz
  have H2:=hid h2
  have H3:=hid h3
  have H4:=hid h4
  have H5:=hid h5
  have H6:=hid h6
  have HSz:=hid hsz
  have H1:=hid h1
  have c2:=h2.cell
  clear b1 b2 b3 hg3 h1 h2 h3 h4 h5 h6 HS eg hpre
  cases x with
  |error q =>
   have c4:=H4.out.cell
   have f4:=H4.out.frozen
   have c5:=H5.out.cell
   have f5:=H5.out.frozen
   have HX:Hid (GaX A w (pre++[.error q]) ((W.setCell ⟨w.heap.size,0,none⟩ (.slice none 0 0)).setCell ⟨w.heap.size+1,0,none⟩ (errV A q))):=Lib.hid
    ⟨t,q,by rw[H1.out],(H4.out.set _).other (by omega) _,(H5.out.other (by omega) _).set _,grown_set (grown_set H6.out (.inl (Nat.le_refl _)) _) (.inl (by show w.heap.size≤w.heap.size+1;omega)) _⟩
   have HK:Hid (KeepsP (Within (fun r=>r<w.heap.size) X.heap.size (k+2)) W ((W.setCell ⟨w.heap.size,0,none⟩ (.slice none 0 0)).setCell ⟨w.heap.size+1,0,none⟩ (errV A q))):=hid (by
    have hsz:=HSz.out
    refine (KeepsP.grown (grownBy_setCell' W w.heap.size (.slice none 0 0)) (fun r h=>?_)).trans (.grown (grownBy_setCell' _ (w.heap.size+1) (errV A q)) (fun r h=>?_))
    ·exact ⟨by rcases h with h|h <;> omega,fun e=>by cases e;rcases h with h|h <;> omega⟩
    ·refine ⟨Nat.lt_of_lt_of_le (?_:r<W.heap.size) (grownBy_setCell' W w.heap.size (.slice none 0 0)).size,fun e=>by cases e;rcases h with h|h <;> omega⟩
     rcases h with h|h <;> omega)
   simp only[encV,encE]
   gi_wp2
   exact ⟨HK.out,rfl,HX.out⟩
  |ok n =>
   obtain ⟨va,vg,vc,hv,hvc,hvm,_⟩:=ownsRow_form H3.out
   subst hv
   have HT1:Hid ((t.take 17).length≤16→(t++[n]).take 17=t.take 17++[n]):=hid (fun h=>by
    rw[List.length_take] at h
    rw[List.take_of_length_le (by rw[List.length_append];simp;omega),List.take_of_length_le (by omega)])
   have HT2:Hid (¬ (t.take 17).length≤16→(t++[n]).take 17=t.take 17):=hid (fun h=>by
    rw[List.length_take] at h
    rw[List.take_append_of_le_length (by omega)])
   obtain ⟨T,hT⟩:∃ T,T=t.take 17:=⟨_,rfl⟩
   have hT17:T.length≤17:=by rw[hT,List.length_take];omega
   rw[←hT] at H2 H3 c2 HT1 HT2
   have HT:=hid hT
   clear hvc hvm hT
   by_cases h16:T.length≤16
   ·have HTn:=hid (HT1.out h16)
    clear HT1 HT2
    simp only[encV,encE]
    gi_wp2_with (gi_at_builtin;refine wpListIn_append_own _ rfl _ _ 51 rfl (w.heap.size+3+(k+2)) 3 i0 (.int .i64 0) 1 8 Tryz.underlying51 hi hz0 hz1 hz2 rfl (by decide) _ T.length (cellsI T) rfl (H3.out.alloc _) ⟨W.heap.size,0,none⟩ 1 1 [.int .i64 n] rfl rfl (cell_one_new _ _ _) (by simp[Value.oneCell']) (by unfold maxLen;omega) (by omega) (by have:=HSz.out;simp;omega) ?_;intro v' w1 hown' hgrow _;obtain ⟨g',cap',rfl⟩:=ownsRow_succ hown';obtain ⟨hv1,hv2,hr2,hk2⟩:=boxed_app H2.out (by decide) H3.out (by omega) hown' hgrow;have hc1:=hv1.cell;have hf1:=hv1.frozen)
    have hsz:=HSz.out
    have kb:=hk2 (fun r=>r<w.heap.size∨r=w.heap.size∨r=w.heap.size+1) (fun r h=>by omega)
    exact ⟨hk2 _ (fun r h=>by rcases h with h|h <;> omega),_,t++[n],by rw[H1.out];simp,hv2,by rw[HTn.out,List.length_append,cellsI_append];exact hr2,(kb.same _ (.inr (.inl rfl))).trans H4.out,(kb.same _ (.inr (.inr rfl))).trans H5.out,grown_keeps H6.out (kb.mono (fun r h=>.inl h))⟩
   ·have HTn:=hid (HT2.out h16)
    clear HT1 HT2
    simp only[encV,encE]
    gi_wp2
    exact ⟨KeepsP.refl _ _,_,t++[n],by rw[H1.out];simp,H2.out,by rw[HTn.out];exact H3.out,H4.out,H5.out,H6.out⟩
 case done =>
  rintro wd ⟨v,t,h1,h2,h3,h4,h5,h6⟩ hK
  obtain ⟨va,vg,vc,hv,hvc,hvm,hva,_⟩:=ownsRow_form h3
  subst hv
  have c2:=h2.cell
  have c4:=h4.cell
  have f4:=h4.frozen
  have c5:=h5.cell
  have f5:=h5.frozen
  have H4:=hid h4
  have H5:=hid h5
  have H3:=hid h3
  have H6:=hid h6
  have H1:=hid h1
  have hK2:∀ u1 u2,((wd.setCell ⟨w.heap.size,0,none⟩ u1).setCell ⟨w.heap.size+1,0,none⟩ u2).heap[X.heap.size]?=some (.deferred (some [])):=fun u1 u2=>by
   rw[Below.heap_setCell _ _ _ _ (by show _≠w.heap.size+1;omega),Below.heap_setCell _ _ _ _ (by show _≠w.heap.size;omega)]
   exact hK
  obtain ⟨T,hT⟩:∃ T,T=t.take 17:=⟨_,rfl⟩
  rw[←hT] at H3 c2 hvc hva
  have HT:=hid hT
  have HVA:=hid hva
  clear b1 b2 b3 hg3 h1 h2 h3 h4 h5 h6 HS eg hT hva
  gi_wp2
  refine ⟨by simp,.inl ⟨_,_,rfl,run_takeDeferred (hK2 _ _),?_⟩⟩
  have e1:Boxed (((wd.setCell ⟨w.heap.size,0,none⟩ (.slice va T.length vc)).setCell ⟨w.heap.size+1,0,none⟩ .nilIface).putObj X.heap.size (.deferred none)) w.heap.size 51 (.slice va T.length vc) :=
   ((H4.out.set _).other (by omega) _).kept (grown_put _ _ _) (fun e=>by have:=Option.some.inj e;omega)
  have e2:Boxed (((wd.setCell ⟨w.heap.size,0,none⟩ (.slice va T.length vc)).setCell ⟨w.heap.size+1,0,none⟩ .nilIface).putObj X.heap.size (.deferred none)) (w.heap.size+1) 28 .nilIface :=
   ((H5.out.other (by omega) _).set _).kept (grown_put _ _ _) (fun e=>by have:=Option.some.inj e;omega)
  have nb:∀ r,r<w.heap.size+3+(k+2)→(Value.slice va T.length vc).ownBlock≠some r:=fun r hr e=>by have:=(H3.out.lt r e).1;omega
  have e3:=((H3.out.kept (grownBy_setCell' wd w.heap.size (.slice va T.length vc)) (.inr (nb _ (by omega)))).kept (grownBy_setCell' _ (w.heap.size+1) .nilIface) (.inr (nb _ (by omega)))).kept (grown_put _ X.heap.size (.deferred none)) (.inr (nb _ (by omega)))
  refine ⟨_,results_ga _ w.heap.size (w.heap.size+1) _ _ _ (by rfl) (by rfl) e1.cell e2.cell,?_,?_⟩
  ·exact grown_row (grown_set (grown_set H6.out (.inl (Nat.le_refl _)) _) (.inl (by show w.heap.size≤w.heap.size+1;omega)) _) (grown_put _ _ _) (fun r e=>by cases e;omega)
  ·rw[H1.out,Od.gat_ok]
   exact ⟨_,rfl,by rw[←HT.out];exact Ints.own e3,Whole0.own e3⟩
 case stop =>
  rintro c pre wd hpre ⟨rfl,t,q,h1,h4,h5,h6⟩ hK
  have c4:=h4.cell
  have c5:=h5.cell
  have H4:=hid h4
  have H5:=hid h5
  have H6:=hid h6
  have H1:=hid h1
  clear b1 b2 b3 hg3 h1 h4 h5 h6 HS eg
  gi_wp2
  refine ⟨by simp,.inl ⟨_,_,rfl,run_takeDeferred hK,?_⟩⟩
  have e1:Boxed (wd.putObj X.heap.size (.deferred none)) w.heap.size 51 (.slice none 0 0):=H4.out.kept (grown_put _ _ _) (fun e=>by have:=Option.some.inj e;omega)
  have e2:Boxed (wd.putObj X.heap.size (.deferred none)) (w.heap.size+1) 28 (errV A q):=H5.out.kept (grown_put _ _ _) (fun e=>by have:=Option.some.inj e;omega)
  refine ⟨_,results_ga _ w.heap.size (w.heap.size+1) _ _ _ (by rfl) (by rfl) e1.cell e2.cell,?_,?_⟩
  ·exact grown_row H6.out (grown_put _ _ _) (fun r e=>by cases e;omega)
  ·obtain ⟨rest,hr⟩:=hpre
   rw[←hr,H1.out,List.append_assoc,List.singleton_append,Od.gat_err]
end Go.Proofs.YtijkaknggdaajaaGreatDoor
