import Derived.RangeFuncNested
import Derived.RangeFuncLeaves
set_option linter.unusedVariables false
set_option linter.unusedSimpArgs false
namespace Go.Proofs.YtijkaknggdaajaaGreatDoor
open Go.RowKit
variable {P:Program}
theorem roundIn_any {n m:Nat} {l:Nat} {f:FuncId} {tmps:Array Value} {assign body:Code} {w:World} {R:Ending→World→Prop}
  (h:RoundIn Fence.wide n P l f tmps assign body w R):RoundIn Fence.wide m P l f tmps assign body w R:=⟨h.1,fun c cs _=>h.2 c cs (fun _ e=>by simp[Fence.wide] at e)⟩
def Within (T:Nat→Prop) (s k:Nat) (r:Nat):Prop:=T r∨(s≤r∧r<s+k)
structure KeepsP (p:Nat→Prop) (W W':World):Prop where
 os:W'.os=W.os
 tape:W'.tape=W.tape
 output:W'.output=W.output
 size:W.heap.size≤W'.heap.size
 same:∀ r,p r→W'.heap[r]?=W.heap[r]?
theorem KeepsP.refl (p:Nat→Prop) (W:World):KeepsP p W W:=⟨rfl,rfl,rfl,Nat.le_refl _,fun _ _=>rfl⟩
theorem KeepsP.trans {p:Nat→Prop} {A B C:World} (h:KeepsP p A B) (k:KeepsP p B C):KeepsP p A C:=⟨k.os.trans h.os,k.tape.trans h.tape,k.output.trans h.output,Nat.le_trans h.size k.size,fun r hr=>(k.same r hr).trans (h.same r hr)⟩
theorem KeepsP.grown {p:Nat→Prop} {A B:World} {row:Option Nat} (h:A.grownBy B row) (hp:∀ r,p r→r<A.heap.size∧some r≠row):KeepsP p A B:=⟨h.os,h.tape,h.output,h.size,fun r hr=>h.block r (hp r hr).1 (hp r hr).2⟩
theorem KeepsP.mono {p q:Nat→Prop} {A B:World} (h:KeepsP p A B) (hq:∀ r,q r→p r):KeepsP q A B:=⟨h.os,h.tape,h.output,h.size,fun r hr=>h.same r (hq r hr)⟩
theorem KeepsP.below {n:Nat} {A B:World} (h:KeepsP (fun r=>r<n) A B) (hn:A.heap.size≤n):A.grownBy B none:=⟨h.os,h.tape,h.output,h.size,fun k hk _=>h.same k (by omega)⟩
def Bears {α:Type} (p:Nat→Prop) (J:List α→World→Prop):Prop:=∀ s A B row,J s A→A.grownBy B row→(∀ r,row=some r→p r)→J s B
def YieldP (P:Program) (l:Nat) (args:Array Value) (W:World) (R:Ending→World→Prop):Prop :=
 ∃ fn tmps assign body,(Instr.yield l args).run P W=.ok (.round l fn tmps assign body) W∧∀ n,RoundIn Fence.wide n P l fn tmps assign body W R
def SeqP {α:Type} (P:Program) (gf:Nat) (lb:Array Value) (encs:α→Array Value) (T C:Nat→Prop) (k:Nat) (src:List α) (w:World):Prop :=
 ∀ (l:Nat) (J Jx:List α→World→Prop) (W:World),KeepsP C w W →
  Bears (Within T W.heap.size k) J→Bears (Within T W.heap.size k) Jx →
  (∀ pre x W1,pre++[x] <+: src→J pre W1→W.heap.size+k≤W1.heap.size→YieldP P l (encs x) W1 fun e W' =>
   (e=.returned (.bool true)∧J (pre++[x]) W'∧KeepsP (Within C W.heap.size k) W1 W')∨(e=.returned (.bool false)∧Jx (pre++[x]) W'∧KeepsP (Within C W.heap.size k) W1 W')) →
  J [] W →
  Calls P gf (#[.func (.yield l) #[] #[]]++lb) W fun e W'=>(∃ v,e=.returned v)∧(J src W'∨(∃ pre,pre <+: src∧Jx pre W'))
theorem SeqP.later {α:Type} {gf:Nat} {lb:Array Value} {encs:α→Array Value} {T C:Nat→Prop} {k:Nat} {src:List α} {w w':World} (h:SeqP P gf lb encs T C k src w) (hk:KeepsP C w w'):SeqP P gf lb encs T C k src w' :=
 fun l J Jx W hW=>h l J Jx W (hk.trans hW)
def ownPostP {α:Type} (p:Nat→Prop) (I:List α→World→Prop) (Ix:Code→List α→World→Prop) (xs:List α) (W:World):Exit→Act→World→Prop
 |.normal,_,W'=>KeepsP p W W'∧I xs W'
 |.ret,_,W'=>KeepsP p W W'∧Ix .ret xs W'
 |.exit id,_,W'=>KeepsP p W W'∧Ix (.exit id) xs W'
 |.goto t,_,W'=>KeepsP p W W'∧Ix (.goto t) xs W'
 |.panic _,_,_=>False
 |.outgrown,_,_=>False
theorem grown_put (W:World) (l:Nat) (o:Obj):W.grownBy (W.putObj l o) (some l):=grownBy_putObj' W l o
theorem wpP_rangeFunc {α:Type} {g:Operand} {ps:Array Tmp} {assign body:Code} {Q:Exit→Act→World→Prop} {a:Act} {w:World}
  {gf:Nat} {lb:Array Value} (hg:a.eval g=.func (.func gf) #[] lb) (eg:∀ args w,(callFunc gf args).run P w=.ok (.enter gf args) w)
  {encs:α→Array Value} {T C:Nat→Prop} {k:Nat} {src:List α} (hseq:SeqP P gf lb encs T C k src w) (hps:∀ x,(encs x).size=ps.size)
  (hT:∀ r,T r→r<w.heap.size) (hC:∀ r,C r→r<w.heap.size)
  (I:List α→World→Prop) (Ix:Code→List α→World→Prop) (hI:Bears (Within T w.heap.size (k+2)) I) (hIx:∀ c,Bears (Within T w.heap.size (k+2)) (Ix c)) (h0:I [] w) (a₁:α→Act)
  (hassign:∀ (l:Nat) (x:α) (W:World) (K:Act→World→Prop),K (a₁ x) W →
   assign.wpIn (Fence.wide.inRound l) 5 P (Exit.then K (fun _ _ _=>False)) { tmps:=(ps.zip (encs x)).foldl (fun t (p,v)=>t.setIfInBounds p v) a.tmps,defers:=[] } W)
  (hbody:∀ (l:Nat) (pre:List α) (x:α) (W:World),w.heap.size+(k+2)≤W.heap.size→pre++[x] <+: src→I pre W →
   body.wpIn (Fence.wide.inRound l) 5 P (ownPostP (Within C w.heap.size (k+2)) I Ix (pre++[x]) W) (a₁ x) W)
  (hdone:∀ (W:World),I src W→W.heap[w.heap.size]?=some (.deferred (some []))→Q .normal { a with defers:={ target:=.collected w.heap.size,args:=#[] } :: a.defers } W)
  (hstop:∀ (c:Code) (pre:List α) (W:World),pre <+: src→Ix c pre W→W.heap[w.heap.size]?=some (.deferred (some []))→c.wpIn Fence.wide 5 P Q { a with defers:={ target:=.collected w.heap.size,args:=#[] } :: a.defers } W) :
  (Code.rangeFunc g ps assign body).wpIn Fence.wide 5 P Q a w:=by
 refine wpIn_rangeFunc ?_
 intro fn hfn
 obtain ⟨rec,hrec⟩:∃ rec:LoopState→Option Code→Loop,rec=fun st pe=>{ state:=st,pending:=pe,fn,tmps:=a.tmps,params:=ps,assign,body,defers:=w.heap.size }:=⟨_,rfl⟩
 obtain ⟨W1,hW1⟩:∃ W1,(w.alloc (.deferred (some []))).alloc (.loop (rec .ready none))=W1:=⟨_,rfl⟩
 have hs1:W1.heap.size=w.heap.size+2:=by rw[←hW1];simp
 have hL1:W1.heap[w.heap.size+1]?=some (.loop (rec .ready none)):=by
  rw[←hW1];have:=World.alloc_heap_new (w.alloc (.deferred (some []))) (.loop (rec .ready none));rwa [World.size_alloc] at this
 have hK1:W1.heap[w.heap.size]?=some (.deferred (some [])):=by
  rw[←hW1];exact (Below.heap_alloc _ _ _ (by simp)).trans (World.alloc_heap_new w _)
 have hg1:w.grownBy W1 none:=by
  rw[←hW1]
  have e1:=World.grownBy_alloc w (.deferred (some [])) none
  have e2:=World.grownBy_alloc (w.alloc (.deferred (some []))) (.loop (rec .ready none)) none
  exact ⟨e2.os.trans e1.os,e2.tape.trans e1.tape,e2.output.trans e1.output,Nat.le_trans e1.size e2.size,fun k hk hne=>(e2.block k (by simp;omega) hne).trans (e1.block k hk hne)⟩
 have hI1:I [] W1:=hI _ _ _ none h0 hg1 (fun r e=>by cases e)
 have put1:∀ {J:List α→World→Prop},Bears (Within T w.heap.size (k+2)) J→∀ {s:List α} {W:World} (o:Obj),J s W→J s (W.putObj (w.heap.size+1) o):=fun hJ s W o hs=>hJ s W _ _ hs (grown_put W _ o) (fun r e=>by cases e;exact .inr ⟨by omega,by omega⟩)
 refine ⟨w.heap.size+1,[{ target:=.collected w.heap.size,args:=#[] }],W1,{ target:=.fn (.func gf) lb,args:=#[.func (.yield (w.heap.size+1)) #[] #[]] },W1,gf,
  #[.func (.yield (w.heap.size+1)) #[] #[]]++lb,W1,?_,?_,?_,?_,fun h=>by simp[Fence.wide] at h,?_⟩
 ·rw[←hW1,hrec];exact run_enterLoop_outer _ _ _ _ _
 ·simp only[resolve,hg]
  simp[go_sem]
 ·intro f' _;trivial
 ·simp[invoke,go_sem,eg]
 ·refine callsIn_wide.2 ((hseq (w.heap.size+1)
   (fun pre W=>I pre W∧W.heap[w.heap.size+1]?=some (.loop (rec .ready none))∧W.heap[w.heap.size]?=some (.deferred (some [])))
   (fun pre W=>∃ c,Ix c pre W∧W.heap[w.heap.size+1]?=some (.loop (rec .done (some c)))∧W.heap[w.heap.size]?=some (.deferred (some [])))
   W1 (.grown hg1 (fun r hr=>⟨hC r hr,by simp⟩)) ?_ ?_ ?_ ⟨hI1,hL1,hK1⟩).mono ?_)
  ·rintro s A B row ⟨h1,h2,h3⟩ hg' hr
   have hne:∀ r,r=w.heap.size∨r=w.heap.size+1→some r≠row:=fun r hr' e=>by
    rcases hr r e.symm with h|h
    ·have:=hT r h;omega
    ·rw[hs1] at h;omega
   refine ⟨hI s A B row h1 hg' (fun r e=>?_),(hg'.block _ (Array.getElem?_eq_some_iff.1 h2).1 (hne _ (.inr rfl))).trans h2,(hg'.block _ (Array.getElem?_eq_some_iff.1 h3).1 (hne _ (.inl rfl))).trans h3⟩
   rcases hr r e with h|h
   ·exact .inl h
   ·exact .inr (by rw[hs1] at h;omega)
  ·rintro s A B row ⟨c,h1,h2,h3⟩ hg' hr
   have hne:∀ r,r=w.heap.size∨r=w.heap.size+1→some r≠row:=fun r hr' e=>by
    rcases hr r e.symm with h|h
    ·have:=hT r h;omega
    ·rw[hs1] at h;omega
   refine ⟨c,hIx c s A B row h1 hg' (fun r e=>?_),(hg'.block _ (Array.getElem?_eq_some_iff.1 h2).1 (hne _ (.inr rfl))).trans h2,(hg'.block _ (Array.getElem?_eq_some_iff.1 h3).1 (hne _ (.inl rfl))).trans h3⟩
   rcases hr r e with h|h
   ·exact .inl h
   ·exact .inr (by rw[hs1] at h;omega)
  ·-- one round
   rintro pre x W hpre ⟨hi,hl,hk⟩ hsz
   rw[hs1] at hsz
   have hlt:w.heap.size+1<W.heap.size:=(Array.getElem?_eq_some_iff.1 hl).1
   have hy:=run_yield (P:=P) (args:=encs x) hl (by rw[hrec];exact hps x)
   rw[hrec] at hy
   refine ⟨fn,_,assign,body,hy,fun n=>roundIn_any (n:=5) (roundIn_of_wpIn hfn (hassign _ x W _ ⟨_,run_beginRound hl (by rw[hrec]),?_⟩))⟩
   have hl2:(W.putObj (w.heap.size+1) (.loop { rec .ready none with state:=.busy })).heap[w.heap.size+1]?=some (.loop { rec .ready none with state:=.busy }):=World.putObj_heap_same hlt
   have hk2:(W.putObj (w.heap.size+1) (.loop { rec .ready none with state:=.busy })).heap[w.heap.size]?=some (.deferred (some [])):=(World.putObj_heap_other (by omega)).trans hk
   refine wpIn_mono (hbody _ pre x _ (by simp;omega) hpre (put1 hI _ hi)) ?_
   have fin:∀ (jump:Option Code) (W3:World),KeepsP (Within C w.heap.size (k+2)) (W.putObj (w.heap.size+1) (.loop { rec .ready none with state:=.busy })) W3 →
     (Instr.endRound (w.heap.size+1) jump).run P W3=.ok (.bool jump.isNone) (W3.putObj (w.heap.size+1) (.loop (rec (if jump.isNone then .ready else .done) jump))) ∧
     (W3.putObj (w.heap.size+1) (.loop (rec (if jump.isNone then .ready else .done) jump))).heap[w.heap.size+1]?=some (.loop (rec (if jump.isNone then .ready else .done) jump)) ∧
     (W3.putObj (w.heap.size+1) (.loop (rec (if jump.isNone then .ready else .done) jump))).heap[w.heap.size]?=some (.deferred (some [])):=fun jump W3 hk3=>by
    have hl3:=(hk3.same (w.heap.size+1) (.inr ⟨by omega,by omega⟩)).trans hl2
    have:=run_endRound (P:=P) jump hl3
    rw[hrec] at this ⊢
    exact ⟨this,World.putObj_heap_same (Array.getElem?_eq_some_iff.1 hl3).1,(World.putObj_heap_other (by omega)).trans ((hk3.same w.heap.size (.inr ⟨by omega,by omega⟩)).trans hk2)⟩
   have kp:∀ (jump:Option Code) (W3:World),KeepsP (Within C w.heap.size (k+2)) (W.putObj (w.heap.size+1) (.loop { rec .ready none with state:=.busy })) W3 →
     KeepsP (Within C W1.heap.size k) W (W3.putObj (w.heap.size+1) (.loop (rec (if jump.isNone then .ready else .done) jump))):=fun jump W3 hk3=>by
    refine ⟨hk3.os,hk3.tape,hk3.output,by have:=hk3.size;simp at this ⊢;exact this,fun r hr=>?_⟩
    have hne:r≠w.heap.size+1:=by
     rcases hr with h|h
     ·have:=hC r h;omega
     ·rw[hs1] at h;omega
    rw[World.putObj_heap_other hne,hk3.same r (by rcases hr with h|h;exact .inl h;exact .inr (by rw[hs1] at h;omega)),World.putObj_heap_other hne]
   rintro e a3 W3 hp
   cases e with
   |normal =>
    obtain ⟨hk3,hi3⟩:=hp
    obtain ⟨hr,hl4,hk4⟩:=fin none W3 hk3
    exact ⟨_,_,hr,.inl ⟨rfl,⟨put1 hI _ hi3,hl4,hk4⟩,kp none W3 hk3⟩⟩
   |ret =>
    obtain ⟨hk3,hi3⟩:=hp
    obtain ⟨hr,hl4,hk4⟩:=fin (some .ret) W3 hk3
    exact ⟨_,_,hr,.inr ⟨rfl,⟨.ret,put1 (hIx _) _ hi3,hl4,hk4⟩,kp (some .ret) W3 hk3⟩⟩
   |exit id =>
    obtain ⟨hk3,hi3⟩:=hp
    obtain ⟨hr,hl4,hk4⟩:=fin (some (.exit id)) W3 hk3
    exact ⟨_,_,hr,.inr ⟨rfl,⟨.exit id,put1 (hIx _) _ hi3,hl4,hk4⟩,kp (some (.exit id)) W3 hk3⟩⟩
   |goto t =>
    obtain ⟨hk3,hi3⟩:=hp
    obtain ⟨hr,hl4,hk4⟩:=fin (some (.goto t)) W3 hk3
    exact ⟨_,_,hr,.inr ⟨rfl,⟨.goto t,put1 (hIx _) _ hi3,hl4,hk4⟩,kp (some (.goto t)) W3 hk3⟩⟩
   |panic ch=>exact hp.elim
   |outgrown=>exact hp.elim
  ·-- behind the iterator
   rintro e W2 ⟨⟨v,rfl⟩,(⟨hi,hl,hk⟩|⟨pre,hSp,c,hi,hl,hk⟩)⟩
   ·exact ⟨none,_,by have:=run_endLoop (P:=P) hl (by rw[hrec];simp);rw[hrec] at this;exact this,hdone _ (put1 hI _ hi) ((World.putObj_heap_other (by omega)).trans hk)⟩
   ·exact ⟨some c,_,by have:=run_endLoop (P:=P) hl (by rw[hrec];simp);rw[hrec] at this;exact this,hstop c pre _ hSp (put1 (hIx c) _ hi) ((World.putObj_heap_other (by omega)).trans hk)⟩
end Go.Proofs.YtijkaknggdaajaaGreatDoor
