import Derived.Test.YtjjbkpjjmbfdhaaGreatDoorZb02
import Derived.Test.YtjjbkpjjmbfdhaaGreatDoorZb11
import Derived.Test.YtjjbkpjjmbfdhaaGreatDoorZb13
import Derived.Test.YtjjbkpjjmbfdhaaGreatDoorZb14
import Derived.Test.YtjjbkpjjmbfdhaaGreatDoorZb20
import Derived.Test.YtjjbkpjjmbfdhaaGreatDoorZb23
set_option linter.unusedVariables false
set_option linter.unusedSimpArgs false
set_option maxRecDepth 100000
set_option maxHeartbeats 2000000
namespace Go.Proofs.YtjjbkpjjmbfdhaaGreatDoor
open Lib (hid)
namespace De
def whole (levels:Nat) (set:Bool) (b:List Nat):Except Nat Nat:=Tl.loop (Tl.within levels) (decide (levels=0)) set b.length b [] 0
theorem within_whole (k t:Nat) (b:List Nat):Tl.within (k+1) t b=if Tl.made t=true then (match whole k (decide (t=49)) b with
  |.error e=>.error e
  |.ok d=>.ok (1+d)) else .ok 1:=by
 rw[Tl.within]
 rfl
def check (b:List Nat):Except Nat Nat:=if 65536<b.length then .error 3 else match Tl.first b with
 |.error e=>.error e
 |.ok (_,i,n)=>if i+n<b.length then .error 4 else whole 16 false b
theorem check_levels (b:List Nat) (h8:∀ x∈b,x<256):check b=Tl.levels b:=by
 unfold check Tl.levels
 by_cases h1:65536<b.length
 ·rw[if_pos h1,if_pos h1]
 rw[if_neg h1,if_neg h1]
 cases hf:Tl.first b with
 |error e=>rfl
 |ok p =>
  obtain ⟨t,i,n⟩:=p
  show (if _ then _ else _)=(if _ then _ else _)
  by_cases h2:i+n<b.length
  ·rw[if_pos h2,if_pos h2]
  rw[if_neg h2,if_neg h2]
  obtain ⟨_,_,hl,_,_⟩:=first_inv h8 hf
  have hne:b≠[]:=by
   intro h
   subst h
   exact absurd hf (by simp[Tl.first])
  obtain ⟨g,hg⟩:∃ g,b.length=g+1:=⟨b.length-1,by cases b with
   |nil=>exact absurd rfl hne
   |cons x r=>simp⟩
  unfold whole
  rw[hg,Tl.loop,if_neg hne,hf]
  simp only[Bool.false_eq_true,if_false,Bool.false_and,Nat.reduceEqDiff,decide_false]
  cases hw:Tl.within 16 t ((b.drop i).take n) with
  |error e=>rfl
  |ok m =>
   show Tl.loop _ _ _ g (b.drop (i+n)) _ _=_
   rw[List.drop_eq_nil_of_le (by omega)]
   cases g with
   |zero=>rw[Tl.loop,Nat.zero_max]
   |succ g=>rw[Tl.loop,if_pos rfl,Nat.zero_max]
theorem lenB_form {s:List Nat} (h8:∀ x∈s,x<256) (h1:1≤s.length):Tl.lenB (Tl.num s)=(128+s.length) :: s↔Tl.more (Tl.num s)=s.length:=by
 constructor
 ·intro h
  have:=congrArg List.length h
  rw[Tl.lenB_len,List.length_cons] at this
  omega
 ·intro h
  have h128:¬ Tl.num s<128:=by
   intro h6
   unfold Tl.more at h
   rw[if_pos h6] at h
   omega
  unfold Tl.lenB
  rw[if_neg h128,h,be_num h8]
theorem num_lt4 {s:List Nat} (h8:∀ x∈s,x<256) (h4:s.length≤4):Tl.num s<4294967296:=by
 have h:=num_lt2 h8
 have:256 ^ s.length≤256 ^ 4:=Nat.pow_le_pow_right (by decide) h4
 omega
end De
namespace De
theorem rdLen_err {l:List Nat} {k:Nat} (h:Tl.rdLen l=.error k):k≠0:=by
 intro h0
 subst h0
 unfold Tl.rdLen at h
 repeat' split at h
 all_goals first
  |exact absurd h (by simp)
  |exact absurd (Except.error.inj h) (by decide)
theorem first_err {l:List Nat} {k:Nat} (h:Tl.first l=.error k):k≠0:=by
 intro h0
 subst h0
 match l,h with
 |[],h=>exact absurd (Except.error.inj h) (by decide)
 |t :: r,h =>
  rw[Tl.first] at h
  split at h
  ·exact absurd (Except.error.inj h) (by decide)
  ·split at h
   ·rename_i e he
    exact rdLen_err he (Except.error.inj h)
   ·split at h
    ·exact absurd (Except.error.inj h) (by decide)
    ·exact absurd h (by simp)
theorem loop_err {rec:Nat→List Nat→Except Nat Nat} {one set:Bool} (hr:∀ t b k,rec t b=.error k→k≠0):∀ (f:Nat) (b a:List Nat) (d k:Nat),Tl.loop rec one set f b a d=.error k→k≠0
 |0,_,_,_,_,h=>by rw[Tl.loop] at h;exact absurd h (by simp)
 |f+1,b,a,d,k,h=>by
  rw[Tl.loop] at h
  split at h
  ·exact absurd h (by simp)
  ·split at h
   ·rename_i e he
    rw[←Except.error.inj h]
    exact first_err he
   ·split at h
    ·rw[←Except.error.inj h];decide
    ·split at h
     ·rename_i e he
      rw[←Except.error.inj h]
      exact hr _ _ _ he
     ·split at h
      ·rw[←Except.error.inj h];decide
      ·exact loop_err hr f _ _ _ _ h
theorem within_err:∀ (L t:Nat) (b:List Nat) (k:Nat),Tl.within L t b=.error k→k≠0
 |0,t,b,k,h=>by rw[←Except.error.inj h];decide
 |L+1,t,b,k,h=>by
  rw[Tl.within] at h
  split at h
  ·split at h
   ·rename_i e he
    rw[←Except.error.inj h]
    exact loop_err (within_err L) _ _ _ _ _ he
   ·exact absurd h (by simp)
  ·exact absurd h (by simp)
theorem whole_err {L:Nat} {set:Bool} {b:List Nat} {k:Nat} (h:whole L set b=.error k):k≠0:=loop_err (within_err L) _ _ _ _ _ h
theorem loop_le {rec:Nat→List Nat→Except Nat Nat} {one set:Bool} {K:Nat} (hr:∀ t b m,rec t b=.ok m→m≤K):∀ (f:Nat) (b a:List Nat) (d m:Nat),d≤K→Tl.loop rec one set f b a d=.ok m→m≤K
 |0,b,a,d,m,hd,h=>by rw[Tl.loop] at h;cases h;exact hd
 |f+1,b,a,d,m,hd,h=>by
  rw[Tl.loop] at h
  split at h
  ·cases h;exact hd
  ·split at h
   ·cases h
   ·split at h
    ·cases h
    ·split at h
     ·cases h
     ·rename_i hrec
      split at h
      ·cases h
      ·exact loop_le hr f _ _ _ m (Nat.max_le.2 ⟨hd,hr _ _ _ hrec⟩) h
theorem within_le:∀ (left t:Nat) (b:List Nat) (m:Nat),Tl.within left t b=.ok m→m≤left
 |0,t,b,m,h=>by cases h
 |L+1,t,b,m,h=>by
  rw[Tl.within] at h
  split at h
  ·split at h
   ·cases h
   ·rename_i hlo
    have:=loop_le (within_le L) _ _ _ _ _ (Nat.zero_le _) hlo
    cases h
    omega
  ·cases h;omega
theorem whole_le {L:Nat} {set:Bool} {b:List Nat} {m:Nat} (h:whole L set b=.ok m):m≤L:=loop_le (within_le L) _ _ _ _ _ (Nat.zero_le _) h
end De
def rowG {α:Type} (G:De.Rd→De.Rd×α):Nat→De.Rd→List α→De.Rd×List α
 |0,s,l=>(if De.more s=true then { s with e:=3 } else s,l)
 |f+1,s,l=>if De.more s=true then rowG G f (G s).1 (l++[(G s).2]) else (s,l)
def rowEnd {α:Type} (G:De.Rd→De.Rd×α) (s:De.Rd) (tag:Int) (most:Nat):De.Rd×List α :=
 (De.leave (rowG G most (De.enter s tag).1 []).1,if (De.leave (rowG G most (De.enter s tag).1 []).1).e≠0 then [] else (rowG G most (De.enter s tag).1 []).2)
section
variable {α:Type} {G:De.Rd→De.Rd×α}
theorem more_e {s:De.Rd} (h:s.e≠0):De.more s=false:=by unfold De.more;simp[h]
theorem more_e0 {s:De.Rd} (h:De.more s=true):s.e=0:=by
 apply Decidable.byContradiction
 intro hn
 rw[more_e hn] at h;cases h
theorem rowG_stop {s:De.Rd} (h:¬ De.more s=true) (f:Nat) (l:List α):rowG G f s l=(s,l):=by
 cases f with
 |zero=>rw[rowG,if_neg h]
 |succ f=>rw[rowG,if_neg h]
theorem rowG_long {s:De.Rd} (h:De.more s=true) (l:List α):rowG G 0 s l=({ s with e:=3 },l):=by rw[rowG,if_pos h]
theorem rowG_next {s:De.Rd} (h:De.more s=true) (f:Nat) (l:List α):rowG G (f+1) s l=rowG G f (G s).1 (l++[(G s).2]):=by rw[rowG,if_pos h]
theorem leave_e {s:De.Rd} (h:s.e≠0):De.leave s=s:=by unfold De.leave;rw[if_pos h]
theorem enter_not {s:De.Rd} {tag:Int} (h:(De.enter s tag).2=false):(De.enter s tag).1.e≠0∨False:=by
 left
 unfold De.enter at h ⊢
 by_cases he:s.e≠0
 ·rw[if_pos he];exact he
 rw[if_neg he] at h ⊢
 by_cases hq:s.top≠[]∧Tl.made tag=false
 ·rw[if_pos hq];exact (by decide:(5:Nat)≠0)
 rw[if_neg hq] at h ⊢
 cases hn:De.next s tag with
 |mk s2 r =>
  rw[hn] at h
  cases r with
  |some x=>cases h
  |none =>
   show s2.e≠0
   unfold De.next at hn
   rw[if_neg he] at hn
   cases hf:Tl.first s.top with
   |error e =>
    rw[hf] at hn
    obtain ⟨rfl,_⟩:=Prod.mk.inj hn
    exact De.first_err hf
   |ok p =>
    obtain ⟨t,i,n⟩:=p
    rw[hf] at hn
    simp only at hn
    by_cases hq2:tag≠0∧(t:Int)≠tag
    ·rw[if_pos hq2] at hn
     obtain ⟨rfl,_⟩:=Prod.mk.inj hn
     exact (by decide:(5:Nat)≠0)
    ·rw[if_neg hq2] at hn;cases hn
theorem rowEnd_not {s:De.Rd} {tag:Int} {most:Nat} (h:(De.enter s tag).2=false):rowEnd G s tag most=((De.enter s tag).1,[]):=by
 have he:=(enter_not h).resolve_right id
 unfold rowEnd
 rw[rowG_stop (by rw[more_e he];decide),leave_e he,if_pos he]
theorem rowEnd_long {s s':De.Rd} {tag:Int} {most:Nat} {l:List α} (h:De.more s'=true) (hr:rowG G 0 s' l=rowG G most (De.enter s tag).1 []):rowEnd G s tag most=({ s' with e:=3 },[]):=by
 unfold rowEnd
 rw[←hr,rowG_long h]
 have he:({ s' with e:=3 }:De.Rd).e≠0:=(by decide:(3:Nat)≠0)
 rw[leave_e he,if_pos he]
theorem rowEnd_stop {s s':De.Rd} {tag:Int} {most f:Nat} {l:List α} (h:¬ De.more s'=true) (hr:rowG G f s' l=rowG G most (De.enter s tag).1 []):rowEnd G s tag most=(De.leave s',if (De.leave s').e≠0 then [] else l):=by
 unfold rowEnd
 rw[←hr,rowG_stop h]
end
end Go.Proofs.YtjjbkpjjmbfdhaaGreatDoor
namespace Go.Proofs.YtjjbkpjjmbfdhaaGreatDoor
open Lib (hid)
open Go.RowKit
def Lev (x:Value) (ys:List Value) (L:List (List Nat)) (w:World):Prop:=Vals w x ys∧Each w ys L∧Whole0 x
def LevS (F:Nat→Prop) (w:World) (x:Value) (L:List (List Nat)):Prop:=∃ ys,Sup F w (Lev x ys L)
theorem LevS.upto {F O:Nat→Prop} {w w':World} {x:Value} {L:List (List Nat)} (h:LevS F w x L) (hu:Upto O w w') (hd:∀ k,F k→¬ O k):LevS F w' x L:=by
 obtain ⟨ys,h⟩:=h
 exact ⟨ys,h.upto hu hd⟩
theorem LevS.nil {F:Nat→Prop} {w:World} (hF:∀ k,F k→k<w.heap.size):LevS F w (.slice none 0 0) []:=⟨[],hF,fun w' _=>⟨Vals.nil w',trivial,fun n c e=>by cases e;exact ⟨rfl,rfl⟩⟩⟩
def tagsOf (s:De.St):List Int:=(s.op.map fun p=>(p.1:Int)).reverse
def levOf (s:De.St) (k:Nat):List (List Nat):=if k=0 then s.dn else (s.op.reverse.getD (k-1) (0,[])).2
theorem tagsOf_len (s:De.St):(tagsOf s).length=s.op.length:=by simp[tagsOf]
def Im (W0:World) (F:Nat→Prop) (b:Nat) (rv:Value) (k:Nat):Prop:=Or0 W0 F k∧k≠b∧rv.ownBlock≠some k
structure RowsW (W0:World) (F:Nat→Prop) (b:Nat) (tv rv:Value) (s:De.St) (w:World):Prop where
 rown:∀ k,rv.ownBlock=some k→F k∧k≠b
 deep:s.op.length≤16
 room:0<s.op.length→∃ a n c,rv=.slice a n c∧s.op.length<n
 tags:Sup (Im W0 F b rv) w (fun W=>Ints W tv (tagsOf s)∧Whole0 tv)
 rows:∃ n xs,n≤20∧w.ownsRow 0 95 1 rv n xs∧∀ k,k≤s.op.length→LevS (Im W0 F b rv) w (xs.getD k (.slice none 0 0)) (levOf s k)
structure RefW (W0:World) (F:Nat→Prop) (b:Nat) (s:De.St) (w:World):Prop where
 base:W0.grownBy w none
 own:∀ k,F k→W0.heap.size≤k∧k<w.heap.size
 mem:F b
 body:∃ tv rv,w.heap[b]?=some (.cells #[tv,rv,.int .i64 (s.e:Nat)] 83 (0,0))∧(s.e=0→RowsW W0 F b tv rv s w)
def Ext (F:Nat→Prop) (w w':World) (k:Nat):Prop:=F k∨(w.heap.size≤k∧k<w'.heap.size)
def Mut (b:Nat) (rv:Value) (k:Nat):Prop:=k=b∨rv.ownBlock=some k
section
variable {W0 w w':World} {F:Nat→Prop} {b:Nat} {tv rv rv':Value} {s s':De.St}
theorem RefW.orlt (h:RefW W0 F b s w):∀ k,Or0 W0 F k→k<w.heap.size:=or0_lt h.base (fun k hk=>(h.own k hk).2)
theorem im_keep {P:World→Prop} (hb:W0.grownBy w none) (hF:∀ k,F k→W0.heap.size≤k∧k<w.heap.size) (h:Sup (Im W0 F b rv) w P) (hu:Upto (Mut b rv) w w')
  (hr:∀ k,k<w.heap.size→rv'.ownBlock=some k→rv.ownBlock=some k):Sup (Im W0 (Ext F w w') b rv') w' P:=by
 have h1:Sup (Im W0 F b rv) w' P:=h.upto hu (fun k hk hm=>by
  rcases hm with rfl|hm
  ·exact hk.2.1 rfl
  ·exact hk.2.2 hm)
 refine h1.mono (fun k hk=>?_) (fun k hk=>?_)
 ·refine ⟨hk.1.imp (fun h=>.inl h) id,hk.2.1,fun e=>hk.2.2 (hr k (h.lt k hk) e)⟩
 ·rcases hk.1 with h2|h2
  ·rcases h2 with h2|h2
   ·exact Nat.lt_of_lt_of_le (hF k h2).2 hu.size
   ·exact h2.2
  ·exact Nat.lt_of_lt_of_le h2 (Nat.le_trans hb.size hu.size)
theorem LevS.keep {x:Value} {L:List (List Nat)} (hb:W0.grownBy w none) (hF:∀ k,F k→W0.heap.size≤k∧k<w.heap.size) (h:LevS (Im W0 F b rv) w x L) (hu:Upto (Mut b rv) w w')
  (hr:∀ k,k<w.heap.size→rv'.ownBlock=some k→rv.ownBlock=some k):LevS (Im W0 (Ext F w w') b rv') w' x L:=by
 obtain ⟨ys,h⟩:=h
 exact ⟨ys,im_keep hb hF h hu hr⟩
theorem ext_own (hb:W0.grownBy w none) (hF:∀ k,F k→W0.heap.size≤k∧k<w.heap.size) (hs:w.heap.size≤w'.heap.size):∀ k,Ext F w w' k→W0.heap.size≤k∧k<w'.heap.size:=fun k hk=>by
 have:=hb.size
 rcases hk with hk|hk
 ·have:=hF k hk;omega
 ·omega
theorem ext_im_lt (hb:W0.grownBy w none) (hF:∀ k,F k→W0.heap.size≤k∧k<w.heap.size) (hs:w.heap.size≤w'.heap.size):∀ k,Im W0 (Ext F w w') b rv k→k<w'.heap.size:=fun k hk=>by
 have:=hb.size
 rcases hk.1 with h|h
 ·exact (ext_own hb hF hs k h).2
 ·omega
theorem Ext.refl_iff (F:Nat→Prop) (w:World) (k:Nat):Ext F w w k↔F k:=⟨fun h=>by
 rcases h with h|h
 ·exact h
 ·omega,fun h=>.inl h⟩
theorem Ext.trans {a b c:World} (h1:a.heap.size≤b.heap.size) (h2:b.heap.size≤c.heap.size) (k:Nat):Ext (Ext F a b) b c k↔Ext F a c k:=by
 unfold Ext
 constructor
 ·rintro ((h|h)|h)
  ·exact .inl h
  ·exact .inr (by omega)
  ·exact .inr (by omega)
 ·rintro (h|h)
  ·exact .inl (.inl h)
  ·by_cases hk:k<b.heap.size
   ·exact .inl (.inr (by omega))
   ·exact .inr (by omega)
theorem Turn.ext (h:Upto F w w'):Turn F (Ext F w w') w w':=⟨h,fun k hk hf=>by
 rcases hf with hf|hf
 ·exact hf
 ·omega⟩
theorem RefW.other {G G':Nat→Prop} (h:RefW W0 F b s w) (hG:∀ k,G k→W0.heap.size≤k) (ht:Turn G G' w w') (ha:Apart G F):RefW W0 F b s w':=by
 have hag:∀ k,k<w.heap.size→¬ G k→w'.heap[k]?=w.heap[k]?:=ht.upto.block
 obtain ⟨tv,rv,h1,h2⟩:=h.body
 refine ⟨ht.upto.base h.base hG,fun k hk=>⟨(h.own k hk).1,Nat.lt_of_lt_of_le (h.own k hk).2 ht.upto.size⟩,h.mem,tv,rv,?_,fun he=>?_⟩
 ·rw[hag b (h.own b h.mem).2 (fun hg=>ha b hg h.mem)];exact h1
 ·have hR:=h2 he
  have hi:∀ k,Im W0 F b rv k→¬ G k:=fun k hk hg=>by
   rcases hk.1 with hf|hl
   ·exact ha k hg hf
   ·have:=hG k hg;omega
  refine ⟨hR.rown,hR.deep,hR.room,hR.tags.upto ht.upto hi,?_⟩
  obtain ⟨n,xs,hn,ho,hl⟩:=hR.rows
  refine ⟨n,xs,hn,?_,fun k hk=>(hl k hk).upto ht.upto hi⟩
  refine ⟨ho.1,?_⟩
  rcases ho.2 with h3|⟨g,cap,cur,rfl,h4,h5,h6⟩
  ·exact .inl h3
  ·exact .inr ⟨g,cap,cur,rfl,h4,(hag g (blk_lt h5) (fun hg=>ha g hg (hR.rown g rfl).1)).trans h5,h6⟩
end
theorem getD_nil (xs:List Value) (k:Nat):(xs++[Value.slice none 0 0]).getD k (.slice none 0 0)=xs.getD k (.slice none 0 0):=by
 simp only[List.getD_eq_getElem?_getD]
 rcases Nat.lt_trichotomy k xs.length with h|h|h
 ·rw[List.getElem?_append_left h]
 ·subst h;simp
 ·rw[List.getElem?_eq_none (by simp;omega),List.getElem?_eq_none (by omega)]
theorem own_setCell {w:World} {base:Nat} {e:TypeId} {sz:Nat} {v:Value} {n:Nat} {xs:List Value} (h:w.ownsRow base e sz v n xs) {b i:Nat} {u:Value} (hb:v.ownBlock≠some b):(w.setCell ⟨b,i,none⟩ u).ownsRow base e sz v n xs:=by
 refine ⟨h.1,?_⟩
 rcases h.2 with h1|⟨g,cap,cur,rfl,h2,h3,h4⟩
 ·exact .inl h1
 ·refine .inr ⟨g,cap,cur,rfl,h2,?_,h4⟩
  rw[Below.heap_setCell _ _ _ _ (fun e=>hb (by show some g=some b;rw[e]))]
  exact h3
section
variable {W0 w w':World} {F:Nat→Prop} {b:Nat} {tv rv rv':Value} {s:De.St}
theorem rows_grow {n:Nat} {xs:List Value} {E:Int} {w2:World} {A:Obj} (hb:W0.grownBy w none) (hF:∀ k,F k→W0.heap.size≤k∧k<w.heap.size) (hm:F b)
  (hc:w.heap[b]?=some (.cells #[tv,rv,.int .i64 E] 83 (0,0))) (hR:RowsW W0 F b tv rv s w) (hn:n<20) (hro:0<s.op.length→s.op.length<n)
  (hl:∀ k,k≤s.op.length→LevS (Im W0 F b rv) w (xs.getD k (.slice none 0 0)) (levOf s k))
  (ho:w2.ownsRow 0 95 1 rv' (n+1) (xs++[.slice none 0 0])) (hg:(w.alloc A).grownBy w2 rv.ownBlock) (hv:rv'.ownBlock=rv.ownBlock∨rv'.ownBlock=some (w.alloc A).heap.size) :
  Upto (Mut b rv) w (w2.setCell ⟨b,1,none⟩ rv')∧(w2.setCell ⟨b,1,none⟩ rv').heap[b]?=some (.cells #[tv,rv',.int .i64 E] 83 (0,0)) ∧
   RowsW W0 (Ext F w (w2.setCell ⟨b,1,none⟩ rv')) b tv rv' s (w2.setCell ⟨b,1,none⟩ rv'):=by
 have hal:(w.alloc A).heap.size=w.heap.size+1:=by rw[alloc_size]
 have hbl:b<w.heap.size:=(hF b hm).2
 have hbr:rv.ownBlock≠some b:=fun e=>(hR.rown b e).2 rfl
 have hs2:w.heap.size+1≤w2.heap.size:=by rw[←hal];exact hg.size
 have hsz:(w2.setCell ⟨b,1,none⟩ rv').heap.size=w2.heap.size:=setCell_size _ _ _
 have hr:∀ k,k<w.heap.size→rv'.ownBlock=some k→rv.ownBlock=some k:=fun k hk e=>by
  rcases hv with h|h
  ·rw[←h];exact e
  ·rw[h] at e;have:=Option.some.inj e;omega
 have hblk:∀ k,k<w.heap.size→rv.ownBlock≠some k→w2.heap[k]?=w.heap[k]?:=fun k hk hne=>by
  rw[hg.block k (by omega) (fun e=>hne e.symm)]
  show (w.heap.push A)[k]?=_
  rw[Array.getElem?_push_lt hk,Array.getElem?_eq_getElem hk]
 have hu:Upto (Mut b rv) w (w2.setCell ⟨b,1,none⟩ rv'):=⟨hg.os,hg.tape,hg.output,by omega,fun k hk hmu=>by
  rw[Below.heap_setCell _ _ _ _ (fun e=>hmu (.inl e))]
  exact hblk k hk (fun e=>hmu (.inr e))⟩
 have hbv:rv'.ownBlock≠some b:=fun e=>hbr (hr b hbl e)
 refine ⟨hu,?_,?_⟩
 ·have:=setCell_heap (i:=1) ((hblk b hbl hbr).trans hc) rv'
  simpa using this
 ·have ho':=own_setCell (i:=1) (u:=rv') ho hbv
  refine ⟨fun k hk=>⟨?_,fun e=>hbv (e ▸ hk)⟩,hR.deep,(fun h0=>by
   obtain ⟨a,g,c,h,_⟩:=ownsRow_form ho'
   exact ⟨a,n+1,c,h,by have:=hro h0;omega⟩),im_keep hb hF hR.tags hu hr,n+1,_,hn,ho',fun k hk=>?_⟩
  ·rcases hv with h|h
   ·exact .inl (hR.rown k (by rw[←h];exact hk)).1
   ·rw[h] at hk
    have e:=Option.some.inj hk
    rcases ho'.2 with ⟨h1,_⟩|⟨g,cap,cur,h1,_,h2,_⟩
    ·rw[h1] at h;exact absurd h (by simp[Value.ownBlock])
    ·have hlt:=blk_lt h2
     rw[h1] at h
     have e2:g=(w.alloc A).heap.size:=Option.some.inj h
     exact .inr ⟨by omega,by omega⟩
  ·rw[getD_nil]
   exact (hl k hk).keep hb hF hu hr
theorem own_put {w:World} {base:Nat} {e:TypeId} {g n c:Nat} {xs:List Value} (h:w.ownsRow base e 1 (.slice (some ⟨g,0,none⟩) n c) n xs) {K:Nat} (hK:K<n) (u:Value) :
  (w.setCell ⟨g,K,none⟩ u).ownsRow base e 1 (.slice (some ⟨g,0,none⟩) n c) n (xs.set K u):=by
 refine ⟨by simpa using h.1,?_⟩
 rcases h.2 with ⟨h1,_⟩|⟨g',cap,cur,h1,h2,h3,h4,h5,h6,h7⟩
 ·exact absurd h1 (by simp)
 ·simp only[Value.slice.injEq,Option.some.injEq,Addr.mk.injEq,and_true,true_and] at h1
  obtain ⟨rfl,rfl⟩:=h1
  refine .inr ⟨g,c,cur.setIfInBounds K u,rfl,h2,setCell_heap h3 u,h4,h5,by simpa using h6,?_⟩
  rw[Array.toList_setIfInBounds,List.take_set,h7]
theorem tagsOf_add (s:De.St) (l:List Nat):tagsOf (De.add s l)=tagsOf s:=by
 obtain ⟨e,op,dn⟩:=s
 match op with
 |[]=>rfl
 |(t,r) :: q=>rfl
theorem opLen_add (s:De.St) (l:List Nat):(De.add s l).op.length=s.op.length:=by
 obtain ⟨e,op,dn⟩:=s
 match op with
 |[]=>rfl
 |(t,r) :: q=>rfl
theorem e_add (s:De.St) (l:List Nat):(De.add s l).e=s.e:=by
 obtain ⟨e,op,dn⟩:=s
 match op with
 |[]=>rfl
 |(t,r) :: q=>rfl
theorem levOf_add (s:De.St) (l:List Nat) (k:Nat) (hk:k≤s.op.length):levOf (De.add s l) k=if k=s.op.length then levOf s k++[l] else levOf s k:=by
 obtain ⟨e,op,dn⟩:=s
 match op with
 |[] =>
  obtain rfl:k=0:=by simpa using hk
  rfl
 |(t,r) :: q =>
  simp only[List.length_cons] at hk
  show levOf ⟨e,(t,r++[l]) :: q,dn⟩ k=_
  unfold levOf
  simp only[List.reverse_cons,List.length_cons]
  by_cases h0:k=0
  ·subst h0;simp
  ·rw[if_neg h0,if_neg h0]
   by_cases hq:k=q.length+1
   ·subst hq
    simp[List.getD_eq_getElem?_getD]
   ·rw[if_neg hq]
    have:k-1<q.reverse.length:=by simp;omega
    simp only[List.getD_eq_getElem?_getD]
    rw[List.getElem?_append_left this,List.getElem?_append_left this]
theorem rows_put {g K n c:Nat} {xs ys:List Value} {x v1:Value} {l:List Nat} {w1:World} {E:Int} (hb:W0.grownBy w none) (hF:∀ k,F k→W0.heap.size≤k∧k<w.heap.size)
  (hc:w.heap[b]?=some (.cells #[tv,.slice (some ⟨g,0,none⟩) n c,.int .i64 E] 83 (0,0))) (hR:RowsW W0 F b tv (.slice (some ⟨g,0,none⟩) n c) s w) (hK:K=s.op.length) (hKn:K<n) (hn:n≤20)
  (ho:w.ownsRow 0 95 1 (.slice (some ⟨g,0,none⟩) n c) n xs) (hl:∀ k,k≤s.op.length→LevS (Im W0 F b (.slice (some ⟨g,0,none⟩) n c)) w (xs.getD k (.slice none 0 0)) (levOf s k))
  (hy:Sup (Im W0 F b (.slice (some ⟨g,0,none⟩) n c)) w (Lev (xs.getD K (.slice none 0 0)) ys (levOf s K))) (hx:Sup (Im W0 F b (.slice (some ⟨g,0,none⟩) n c)) w (fun W=>Bytes W x l∧Whole0 x))
  (h1:FrV w w1 v1 (ys++[x])) :
  Upto (Mut b (.slice (some ⟨g,0,none⟩) n c)) w (w1.setCell ⟨g,K,none⟩ v1)∧(w1.setCell ⟨g,K,none⟩ v1).heap[b]?=some (.cells #[tv,.slice (some ⟨g,0,none⟩) n c,.int .i64 E] 83 (0,0)) ∧
   RowsW W0 (Ext F w (w1.setCell ⟨g,K,none⟩ v1)) b tv (.slice (some ⟨g,0,none⟩) n c) (De.add s l) (w1.setCell ⟨g,K,none⟩ v1):=by
 have hgb:g≠b:=(hR.rown g rfl).2
 have hFg:=(hR.rown g rfl).1
 have hgl:=(hF g hFg).2
 have hbl:b<w.heap.size:=blk_lt hc
 have hs1:=h1.grown.size
 have hsz:(w1.setCell ⟨g,K,none⟩ v1).heap.size=w1.heap.size:=setCell_size _ _ _
 have hblk:∀ k,k<w.heap.size→k≠g→(w1.setCell ⟨g,K,none⟩ v1).heap[k]?=w.heap[k]?:=fun k hk hne=>by
  rw[Below.heap_setCell _ _ _ _ hne]
  exact h1.grown.block k hk (by simp)
 have hu:Upto (Mut b (.slice (some ⟨g,0,none⟩) n c)) w (w1.setCell ⟨g,K,none⟩ v1):=⟨h1.grown.os,h1.grown.tape,h1.grown.output,by omega,fun k hk hmu=>hblk k hk (fun e=>hmu (.inr (by rw[e];rfl)))⟩
 have hr:∀ k,k<w.heap.size→(Value.slice (some ⟨g,0,none⟩) n c).ownBlock=some k→(Value.slice (some ⟨g,0,none⟩) n c).ownBlock=some k:=fun _ _ h=>h
 have hkx:xs.length=n:=by simpa using ho.1
 have ho1:w1.ownsRow 0 95 1 (.slice (some ⟨g,0,none⟩) n c) n xs:=by
  refine ⟨ho.1,?_⟩
  rcases ho.2 with h|⟨g',cap,cur,h2,h3,h4,h5⟩
  ·exact .inl h
  ·simp only[Value.slice.injEq,Option.some.injEq,Addr.mk.injEq,and_true,true_and] at h2
   obtain ⟨rfl,rfl⟩:=h2
   exact .inr ⟨g,c,cur,rfl,h3,(h1.grown.block g hgl (by simp)).trans h4,h5⟩
 refine ⟨hu,(hblk b hbl (Ne.symm hgb)).trans hc,⟨fun k hk=>?_,by rw[opLen_add];exact hR.deep,(fun _=>⟨_,n,c,rfl,by rw[opLen_add];omega⟩),by rw[tagsOf_add];exact im_keep hb hF hR.tags hu hr,n,xs.set K v1,hn,own_put ho1 hKn v1,fun k hk=>?_⟩⟩
 ·exact ⟨.inl (hR.rown k hk).1,(hR.rown k hk).2⟩
 ·rw[opLen_add] at hk
  rw[levOf_add s l k hk,List.getD_eq_getElem?_getD,List.getElem?_set]
  by_cases hkK:k=K
  ·rw[hkK,if_pos hK,if_pos rfl,if_pos (by omega)]
   have hlt:∀ k,Im W0 (Ext F w (w1.setCell ⟨g,K,none⟩ v1)) b (.slice (some ⟨g,0,none⟩) n c) k→k<(w1.setCell ⟨g,K,none⟩ v1).heap.size:=ext_im_lt hb hF hu.size
   have s1:=im_keep hb hF hy hu hr
   have s2:=im_keep hb hF hx hu hr
   have hV:Vals (w1.setCell ⟨g,K,none⟩ v1) v1 (ys++[x]):=Vals.own (own_setCell h1.own (fun e=>by
    rcases h1.own.2 with ⟨h,_⟩|⟨g',_,_,h,h2,_⟩
    ·rw[h] at e;exact absurd e (by simp[Value.ownBlock])
    ·rw[h] at e;have:=Option.some.inj e;simp only at this;omega))
   have s3:=vals_sup hV hlt (fun hp j hj=>by
    obtain ⟨a,n',c',e,rfl⟩:=hj
    rcases h1.own.2 with ⟨h,_⟩|⟨g',_,_,h,h2,h3,_⟩
    ·rw[h] at e;exact absurd e (by simp)
    ·rw[h] at e
     simp only[Value.slice.injEq,Option.some.injEq] at e
     obtain ⟨rfl,_⟩:=e
     have:=blk_lt h3
     refine ⟨.inl (.inr ⟨h2,(by omega:g'<(w1.setCell ⟨g,K,none⟩ v1).heap.size)⟩),by show g'≠b;omega,fun e=>by have:=Option.some.inj e;simp only at this;omega⟩)
   exact ⟨_,((s1.and s2).and s3).map fun W hW=>⟨hW.2,hW.1.1.2.1.append (show Each W [x] [l] from ⟨⟨hW.1.2.1,hW.1.2.2⟩,trivial⟩),h1.whole⟩⟩
  ·rw[if_neg (fun e=>hkK e.symm:¬ K=k),if_neg (fun e=>hkK (e.trans hK.symm):¬ k=s.op.length),←List.getD_eq_getElem?_getD]
   exact (hl k hk).keep hb hF hu hr
end
def rowsLen (b:Nat) (w:World):Nat:=match w.cell? ⟨b,1,none⟩ with
 |some (.slice _ n _)=>n
 |_=>0
theorem rowsLen_at {b:Nat} {w:World} {a:Option Addr} {n c:Nat} (h:w.cell? ⟨b,1,none⟩=some (.slice a n c)):rowsLen b w=n:=by rw[rowsLen,h]
theorem iV:((Tryz.prog.info? 95).map (fun i=>(i.zero,i.size,i.bytes)))=some (some (.slice none 0 0),1,24):=by kernel_rfl
def NxR (r:Except Nat (Nat×Nat×Nat)):Ending:=match r with
 |.error k=>.returned (.tuple #[.int .i64 0,.int .i64 0,.int .i64 0,.int .i64 (k:Int)])
 |.ok (t,i,n)=>.returned (.tuple #[.int .i64 (t:Int),.int .i64 (i:Int),.int .i64 ((i+n:Nat):Int),.int .i64 0])
theorem known_first (t:Nat) (r:List Nat) (h:Tl.known (t:Int)=true):Tl.first (t :: r)=match Tl.rdLen r with
  |.error e=>.error e
  |.ok (n,k)=>if r.length-k<n then .error 2 else .ok (t,1+k,n):=by
 rw[Tl.first,if_neg (by rw[h];simp)]
 rfl
theorem results_tmp4 {fn:Func} {t u v x:Tmp} (h:fn.results=#[.tmp t,.tmp u,.tmp v,.tmp x]) (tmps:Array Value) (P:Program) (w:World) :
  (results fn tmps).run P w=.ok (.tuple #[tmps.getD t undef,tmps.getD u undef,tmps.getD v undef,tmps.getD x undef]) w:=by
 simp[results,h]
theorem slice_lo1 (W:World) (a:Option Addr) (N c q:Nat) (h:2+q≤c):(Instr.sliceAt 27 (.slice a N c) (some (.int .i64 1)) (some (.int .i64 (2+(q:Int)))) none).run Tryz.prog W=.ok (.slice (subA a 1 c) (1+q) (c-1)) W:=by
 rw[run_sliceAt_slice W 27 _ _ _ _ elemU8,run_slice_lh W 27 a N c elemU8 .i64 .i64 1 (2+(q:Int)) (by decide) (by omega) (by omega),sizeU8]
 simp only[Result.andThen,sliced,Nat.mul_one,subA]
 rw[show (2+(q:Int)).toNat-(1:Int).toNat=1+q by omega]
 rfl
theorem num_take2 (l:List Nat) (k:Nat) (h:k<l.length):Tl.num (l.take (k+1))=256*Tl.num (l.take k)+l.getD k 0:=by
 rw[List.take_add_one,List.getElem?_eq_getElem h,Tl.num,List.foldl_append,←Tl.num]
 simp[List.getD_eq_getElem?_getD,List.getElem?_eq_getElem h]
theorem getD_lt2 {l:List Nat} (hl:∀ x∈l,x<256) (k:Nat):l.getD k 0<256:=by
 rw[List.getD_eq_getElem?_getD]
 cases h:l[k]? with
 |none=>exact Nat.zero_lt_succ _
 |some x=>exact hl x (List.mem_of_getElem? h)
theorem refNext_any (v:Value) (l:List Nat) (w:World) (hB:Bytes w v l) (hl:l.length≤4611686018427387904) :
  Calls Tryz.prog 125 #[v] w fun e w'=>e=NxR (Tl.first l)∧w.grownBy w' none:=by
 have HR:Hid (∀ r e,Tl.first l=r→e=NxR r→e=NxR (Tl.first l)):=hid (fun r e h h2=>by rw[h];exact h2)
 obtain ⟨R,hR⟩:∃ R,R=NxR (Tl.first l):=⟨_,rfl⟩
 rw[←hR] at HR ⊢
 clear hR
 have hB':=hB
 obtain ⟨hlt,a,sb,so,c,rfl,hc,ha,hcell⟩:=hB'
 match l,hB,hl,hlt,hc,ha,hcell,HR with
 |[],hB,hl,hlt,hc,ha,hcell,HR =>
  have HX:=hid (show Tl.first []=.error 2 from rfl)
  clear hB hlt ha hcell
  go_enter Tryz.func125,Tryz.ntmps125
  go_wp2
  ((try simp only[Exit.inBlock,Exit.then]);refine bodyPost_ret (results_tmp4 rfl _ _ _) rfl ?_)
  exact ⟨HR.out _ _ HX.out rfl,grown_refl _ _⟩
 |t :: r,hB,hl,hlt,hc,ha,hcell,HR =>
  have ht:=hlt t (by simp)
  have HKn:=hid (fun W=>refKnown_any (t:Int) W)
  have c0:=hcell 0 (by simp)
  simp only[List.getD_cons_zero,Nat.add_zero] at c0
  obtain ⟨rfl,hsb⟩:=ha (by simp)
  by_cases hk:Tl.known (t:Int)=true
  ·rw[hk] at HKn
   have HF:=hid (known_first t r hk)
   clear hk
   match r,hB,hl,hlt,hc,ha,hcell,HR,HF with
   |[],hB,hl,hlt,hc,ha,hcell,HR,HF =>
    have HX:Hid (Tl.first [t]=.error 2):=hid (by rw[HF.out];rfl)
    clear hB hlt ha hcell HF
    go_enter Tryz.func125,Tryz.ntmps125
    go_wp2_with (go_at_call 162;refine (HKn.out _).mono ?_;rintro e w2 ⟨rfl,rfl⟩)
    ((try simp only[Exit.inBlock,Exit.then]);refine bodyPost_ret (results_tmp4 rfl _ _ _) rfl ?_)
    exact ⟨HR.out _ _ HX.out rfl,grown_refl _ _⟩
   |x :: s,hB,hl,hlt,hc,ha,hcell,HR,HF =>
    obtain ⟨n,hn⟩:∃ n,n=s.length:=⟨_,rfl⟩
    have HN:=hid hn
    have e2:(t :: x :: s).length=n+2:=by rw[hn];rfl
    have hx:=hlt x (by simp)
    have c1:=hcell 1 (by simp)
    simp only[List.getD_cons_zero,List.getD_cons_succ] at c1
    have HCs:Hid (∀ j,j<n→w.cell? ⟨sb,so+(2+j),none⟩=some (.int .u8 (s.getD j 0:Nat))):=hid (fun j hj=>by
     have:=hcell (2+j) (by rw[e2];omega)
     rw[Nat.add_comm 2 j] at this ⊢
     first | exact this | simpa using this)
    have HS8:=hid (show ∀ z∈s,z<256 from fun z hz=>hlt z (by simp[hz]))
    rw[e2] at hB hc hl ⊢
    have HB:=hid hB
    clear hB hlt ha hcell e2 hn
    by_cases h128:x<128
    ·have HX0:Hid (Tl.first (t :: x :: s)=if n<x then .error 2 else .ok (t,2,x)):=hid (by
      rw[HF.out,Tl.rdLen,if_pos h128]
      show (if (x :: s).length-1<x then _ else _)=_
      rw[show (x :: s).length-1=n by rw[HN.out];rfl])
     clear HF
     by_cases hnx:n<x
     ·have HX:Hid (Tl.first (t :: x :: s)=.error 2):=hid (by rw[HX0.out,if_pos hnx])
      go_enter Tryz.func125,Tryz.ntmps125
      go_wp2_with (go_at_call 162;refine (HKn.out _).mono ?_;rintro e w2 ⟨rfl,rfl⟩)
      ((try simp only[Exit.inBlock,Exit.then]);refine bodyPost_ret (results_tmp4 rfl _ _ _) rfl ?_)
      exact ⟨HR.out _ _ HX.out rfl,grown_refl _ _⟩
     ·have HX:Hid (Tl.first (t :: x :: s)=.ok (t,2,x)):=hid (by rw[HX0.out,if_neg hnx])
      go_enter Tryz.func125,Tryz.ntmps125
      go_wp2_with (go_at_call 162;refine (HKn.out _).mono ?_;rintro e w2 ⟨rfl,rfl⟩)
      ((try simp only[Exit.inBlock,Exit.then]);refine bodyPost_ret (results_tmp4 rfl _ _ _) rfl ?_)
      exact ⟨HR.out _ _ HX.out (by unfold NxR;congr),grown_refl _ _⟩
    ·obtain ⟨q,hxq⟩:∃ q,x=128+q:=⟨x-128,by omega⟩
     have e128:(x:Int)-128=(q:Int):=by omega
     have HXQ:=hid hxq
     clear hxq
     have h128g:(128:Int)≤(x:Int):=by omega
     by_cases hq:q=0∨4<q
     ·have HX:Hid (Tl.first (t :: x :: s)=.error 4):=hid (by rw[HF.out,Tl.rdLen,if_neg h128,if_pos (by have:=HXQ.out;omega)])
      rcases hq with rfl|hq
      ·go_enter Tryz.func125,Tryz.ntmps125
       go_wp2_with (go_at_call 162;refine (HKn.out _).mono ?_;rintro e w2 ⟨rfl,rfl⟩)
       ((try simp only[Exit.inBlock,Exit.then]);refine bodyPost_ret (results_tmp4 rfl _ _ _) rfl ?_)
       exact ⟨HR.out _ _ HX.out rfl,grown_refl _ _⟩
      ·have d1:decide ((q:Int)<1)=false:=decide_eq_false (by omega)
       go_enter Tryz.func125,Tryz.ntmps125
       go_wp2_with (go_at_call 162;refine (HKn.out _).mono ?_;rintro e w2 ⟨rfl,rfl⟩)
       ((try simp only[Exit.inBlock,Exit.then]);refine bodyPost_ret (results_tmp4 rfl _ _ _) rfl ?_)
       exact ⟨HR.out _ _ HX.out rfl,grown_refl _ _⟩
     ·have d1:decide ((q:Int)<1)=false:=decide_eq_false (by omega)
      have d4:decide (4<(q:Int))=false:=decide_eq_false (by omega)
      by_cases hnq:n<q
      ·have HX:Hid (Tl.first (t :: x :: s)=.error 2):=hid (by rw[HF.out,Tl.rdLen,if_neg h128,if_neg (by have:=HXQ.out;omega),if_pos (by rw[←HN.out];have:=HXQ.out;omega)])
       go_enter Tryz.func125,Tryz.ntmps125
       go_wp2_with (go_at_call 162;refine (HKn.out _).mono ?_;rintro e w2 ⟨rfl,rfl⟩)
       ((try simp only[Exit.inBlock,Exit.then]);refine bodyPost_ret (results_tmp4 rfl _ _ _) rfl ?_)
       exact ⟨HR.out _ _ HX.out rfl,grown_refl _ _⟩
      ·have hqn:q≤n:=by omega
       have hq4:1≤q∧q≤4:=by omega
       obtain ⟨m,hm⟩:∃ m,m=Tl.num (s.take q):=⟨_,rfl⟩
       have HM:=hid hm
       have HX0:Hid (Tl.first (t :: x :: s)=if Tl.more m≠q then .error 4 else if 65530<m then .error 3 else if n-q<m then .error 2 else .ok (t,2+q,m)):=hid (by
        rw[HF.out,Tl.rdLen,if_neg h128,if_neg (by have:=HXQ.out;omega),if_neg (by rw[←HN.out];have:=HXQ.out;omega),show x-128=q by have:=HXQ.out;omega,←hm]
        by_cases g1:Tl.more m≠q
        ·rw[if_pos g1,if_pos g1]
        ·rw[if_neg g1,if_neg g1]
         by_cases g2:65530<m
         ·rw[if_pos g2,if_pos g2]
         ·rw[if_neg g2,if_neg g2]
          show (if (x :: s).length-(1+q)<m then _ else _)=_
          rw[show (x :: s).length-(1+q)=n-q by rw[List.length_cons,←HN.out];omega,show 1+(1+q)=2+q by omega])
       have hsl:(s.take q).length=q:=by rw[List.length_take,←HN.out];omega
       have hs8:∀ z∈s.take q,z<256:=fun z hz=>HS8.out z (List.mem_of_mem_take hz)
       have hm32:m<4294967296:=by rw[hm];exact De.num_lt4 hs8 (by omega)
       have HLen:=hid (fun W=>refLen32_any m hm32 W)
       have hform:=De.lenB_form hs8 (by omega)
       rw[hsl,←hm] at hform
       have HFo:=hid hform
       have HLl:=hid (Tl.lenB_lt m)
       have HNl:Hid (∀ k,k≤q→Tl.num (s.take k)<4294967296):=hid (fun k hk=>De.num_lt4 (fun z hz=>HS8.out z (List.mem_of_mem_take hz)) (by rw[List.length_take];omega))
       have HNt:Hid (∀ k,k<q→Tl.num (s.take (k+1))=256*Tl.num (s.take k)+s.getD k 0):=hid (fun k hk=>num_take2 s k (by rw[←HN.out];omega))
       have HTk:Hid (((x :: s)).take (1+q)=(128+q) :: s.take q):=hid (by rw[Nat.add_comm 1 q,List.take_succ_cons,HXQ.out])
       clear hm hsl hs8 hform HF
       go_enter Tryz.func125,Tryz.ntmps125
       go_wp2_with (go_at_call 162;refine (HKn.out _).mono ?_;rintro e w2 ⟨rfl,rfl⟩)
       go_loopw [6,9] (fun y i wr=>∃ k:Nat,k≤q∧i=.int .i64 k∧y=.int .i64 (Tl.num (s.take k):Nat)∧w2=wr) (fun _ i _=>q-(intOf i).toNat)
       case atStart=>exact ⟨0,Nat.zero_le _,rfl,rfl,rfl⟩
       case round =>
        obtain ⟨k,hk,rfl,rfl,rfl⟩:=hrel
        by_cases hkq:k<q
        ·have hc1:=HCs.out k (by omega)
         have hz:=HS8.out
         have hnb:=HNl.out k hk
         have HS:=hid (HNt.out k hkq)
         have hx8:s.getD k 0<256:=getD_lt2 HS8.out k
         clear hz
         generalize s.getD k 0=z at *
         generalize Tl.num (s.take k)=y at *
         go_wp2
         go_roundw
         case rel=>exact ⟨k+1,by omega,by go_num,by rw[HS.out];go_num,trivial⟩
         case measure=>simp[intOf];omega
        ·obtain rfl:k=q:=by omega
         have HC:=hid (fun W x B (hx:Bytes W x B)=>conv_bytes (P:=Tryz.prog) hx 27 5 9 Tryz.underlying27 Tryz.underlying5 Tryz.underlying9)
         have HBu:Hid (Bytes w2 (.slice (subA (some ⟨sb,so,none⟩) 1 c) (1+k) (c-1)) ((128+k) :: s.take k)):=hid (by
          have:=(HB.out.from 1 (by omega)).to (1+k) (by omega)
          rw[List.drop_succ_cons,List.drop_zero,HTk.out] at this
          exact this)
         have hbq:=strOf_beq (a:=Tl.lenB m) (b:=(128+k) :: s.take k) HLl.out HBu.out.lt
         rw[←HM.out]
         by_cases g1:Tl.more m=k
         ·have HBo:Hid ((!((strOf (Tl.lenB m)).toList==(strOf ((128+k) :: s.take k)).toList))=false):=hid (by rw[hbq,decide_eq_true (HFo.out.2 g1)];rfl)
          have HX1:=HX0.out
          rw[if_neg (fun h=>h g1)] at HX1
          have HX2:=hid HX1
          clear HX1 HX0 hbq g1
          by_cases g2:65530<m
          ·have HX:Hid (Tl.first (t :: x :: s)=.error 3):=hid (by rw[HX2.out,if_pos g2])
           clear HX2
           go_wp2
           refine nx_region _ (.slice (some ⟨sb,so,none⟩) (n+2) c) (.slice (subA (some ⟨sb,so,none⟩) 1 c) (1+k) (c-1)) (m:Int) (2+(k:Int)) (strOf (Tl.lenB m)) (strOf ((128+k) :: s.take k)) (Tl.lenB m) w2 w2 _ rfl rfl rfl rfl (fun W _=>(HLen.out W).mono (fun e w' ⟨v,h1,h2⟩=>⟨v,h1,h2.grown,Bytes.own h2.own HLl.out⟩)) (fun W hW=>HC.out W _ _ (HBu.out.grown hW)) (fun W x hx=>HC.out W x _ hx) (fun W=>slice_lo1 W _ _ c k (by omega)) ⟨rfl,rfl,rfl,Nat.le_refl _,fun _ _ _=>rfl⟩ (fun us w4 hg4=>?_)
           simp only[fill_cons,fill_nil,Act.put,List.setIfInBounds_toArray,List.set_cons_succ,List.set_cons_zero]
           rw[HBo.out]
           have HG4:=hid hg4;have c04:w4.cell? ⟨sb,so,none⟩=some (.int .u8 (t:Nat)):=by rw[World.cell?_of_block (hg4.block sb hsb (by simp))];exact c0
           clear hg4
           go_wp2
           ((try simp only[Exit.inBlock,Exit.then]);refine bodyPost_ret (results_tmp4 rfl _ _ _) rfl ?_)
           exact ⟨HR.out _ _ HX.out rfl,HG4.out⟩
          ·by_cases g3:n-k<m
           ·have HX:Hid (Tl.first (t :: x :: s)=.error 2):=hid (by rw[HX2.out,if_neg g2,if_pos g3])
            clear HX2
            go_wp2
            refine nx_region _ (.slice (some ⟨sb,so,none⟩) (n+2) c) (.slice (subA (some ⟨sb,so,none⟩) 1 c) (1+k) (c-1)) (m:Int) (2+(k:Int)) (strOf (Tl.lenB m)) (strOf ((128+k) :: s.take k)) (Tl.lenB m) w2 w2 _ rfl rfl rfl rfl (fun W _=>(HLen.out W).mono (fun e w' ⟨v,h1,h2⟩=>⟨v,h1,h2.grown,Bytes.own h2.own HLl.out⟩)) (fun W hW=>HC.out W _ _ (HBu.out.grown hW)) (fun W x hx=>HC.out W x _ hx) (fun W=>slice_lo1 W _ _ c k (by omega)) ⟨rfl,rfl,rfl,Nat.le_refl _,fun _ _ _=>rfl⟩ (fun us w4 hg4=>?_)
            simp only[fill_cons,fill_nil,Act.put,List.setIfInBounds_toArray,List.set_cons_succ,List.set_cons_zero]
            rw[HBo.out]
            have HG4:=hid hg4;have c04:w4.cell? ⟨sb,so,none⟩=some (.int .u8 (t:Nat)):=by rw[World.cell?_of_block (hg4.block sb hsb (by simp))];exact c0
            clear hg4
            go_wp2
            ((try simp only[Exit.inBlock,Exit.then]);refine bodyPost_ret (results_tmp4 rfl _ _ _) rfl ?_)
            exact ⟨HR.out _ _ HX.out rfl,HG4.out⟩
           ·have HX:Hid (Tl.first (t :: x :: s)=.ok (t,2+k,m)):=hid (by rw[HX2.out,if_neg g2,if_neg g3])
            clear HX2
            go_wp2
            refine nx_region _ (.slice (some ⟨sb,so,none⟩) (n+2) c) (.slice (subA (some ⟨sb,so,none⟩) 1 c) (1+k) (c-1)) (m:Int) (2+(k:Int)) (strOf (Tl.lenB m)) (strOf ((128+k) :: s.take k)) (Tl.lenB m) w2 w2 _ rfl rfl rfl rfl (fun W _=>(HLen.out W).mono (fun e w' ⟨v,h1,h2⟩=>⟨v,h1,h2.grown,Bytes.own h2.own HLl.out⟩)) (fun W hW=>HC.out W _ _ (HBu.out.grown hW)) (fun W x hx=>HC.out W x _ hx) (fun W=>slice_lo1 W _ _ c k (by omega)) ⟨rfl,rfl,rfl,Nat.le_refl _,fun _ _ _=>rfl⟩ (fun us w4 hg4=>?_)
            simp only[fill_cons,fill_nil,Act.put,List.setIfInBounds_toArray,List.set_cons_succ,List.set_cons_zero]
            rw[HBo.out]
            have HG4:=hid hg4;have c04:w4.cell? ⟨sb,so,none⟩=some (.int .u8 (t:Nat)):=by rw[World.cell?_of_block (hg4.block sb hsb (by simp))];exact c0
            clear hg4
            go_wp2
            ((try simp only[Exit.inBlock,Exit.then]);refine bodyPost_ret (results_tmp4 rfl _ _ _) rfl ?_)
            exact ⟨HR.out _ _ HX.out (by unfold NxR;congr),HG4.out⟩
         ·have HBo:Hid ((!((strOf (Tl.lenB m)).toList==(strOf ((128+k) :: s.take k)).toList))=true):=hid (by rw[hbq,decide_eq_false (fun h=>g1 (HFo.out.1 h))];rfl)
          have HX:Hid (Tl.first (t :: x :: s)=.error 4):=hid (by rw[HX0.out,if_pos g1])
          clear HX0 hbq g1
          go_wp2
          refine nx_region _ (.slice (some ⟨sb,so,none⟩) (n+2) c) (.slice (subA (some ⟨sb,so,none⟩) 1 c) (1+k) (c-1)) (m:Int) (2+(k:Int)) (strOf (Tl.lenB m)) (strOf ((128+k) :: s.take k)) (Tl.lenB m) w2 w2 _ rfl rfl rfl rfl (fun W _=>(HLen.out W).mono (fun e w' ⟨v,h1,h2⟩=>⟨v,h1,h2.grown,Bytes.own h2.own HLl.out⟩)) (fun W hW=>HC.out W _ _ (HBu.out.grown hW)) (fun W x hx=>HC.out W x _ hx) (fun W=>slice_lo1 W _ _ c k (by omega)) ⟨rfl,rfl,rfl,Nat.le_refl _,fun _ _ _=>rfl⟩ (fun us w4 hg4=>?_)
          simp only[fill_cons,fill_nil,Act.put,List.setIfInBounds_toArray,List.set_cons_succ,List.set_cons_zero]
          rw[HBo.out]
          have HG4:=hid hg4;have c04:w4.cell? ⟨sb,so,none⟩=some (.int .u8 (t:Nat)):=by rw[World.cell?_of_block (hg4.block sb hsb (by simp))];exact c0
          clear hg4
          go_wp2
          ((try simp only[Exit.inBlock,Exit.then]);refine bodyPost_ret (results_tmp4 rfl _ _ _) rfl ?_)
          exact ⟨HR.out _ _ HX.out rfl,HG4.out⟩
  ·have hkf:Tl.known (t:Int)=false:=by simpa using hk
   have HX:Hid (Tl.first (t :: r)=.error 5):=hid (by rw[Tl.first,if_pos hkf])
   rw[hkf] at HKn
   obtain ⟨n,hn⟩:∃ n,n=r.length:=⟨_,rfl⟩
   rw[show (t :: r).length=n+1 by rw[hn];rfl] at hc hl ⊢
   clear hB hlt ha hcell hk hkf hn
   go_enter Tryz.func125,Tryz.ntmps125
   go_wp2_with (go_at_call 162;refine (HKn.out _).mono ?_;rintro e w2 ⟨rfl,rfl⟩)
   ((try simp only[Exit.inBlock,Exit.then]);refine bodyPost_ret (results_tmp4 rfl _ _ _) rfl ?_)
   exact ⟨HR.out _ _ HX.out rfl,grown_refl _ _⟩
def WhR (r:Except Nat Nat):Ending:=match r with
 |.error k=>.returned (.tuple #[.int .i64 0,.int .i64 (k:Int)])
 |.ok d=>.returned (.tuple #[.int .i64 (d:Int),.int .i64 0])
def lenS:Value→Nat
 |.slice _ n _=>n
 |_=>0
def IsW (L:Nat):Prop:=∀ (set:Bool) (v:Value) (l:List Nat) (w:World),Bytes w v l→l.length≤1099511620000 →
 Calls Tryz.prog 126 #[v,.int .i64 (L:Int),.bool set] w fun e w'=>e=WhR (De.whole L set l)∧w.grownBy w' none
theorem whole_step (L:Nat) (hL:L≤16) (IH:∀ K,L=K+1→IsW K):IsW L:=by
 intro set v l w hB hl
 obtain ⟨R,hR⟩:∃ R,R=Tl.loop (Tl.within L) (decide (L=0)) set l.length l [] 0:=⟨_,rfl⟩
 have HX:Hid (De.whole L set l=R):=hid (by rw[hR];rfl)
 have HRR:=hid hR
 have HB:=hid hB
 have HIH:=hid IH
 have hlt:=hB.lt
 obtain ⟨_,va,vsb,vso,vc,rfl,_⟩:=hB
 obtain ⟨n,hn⟩:∃ n,n=l.length:=⟨_,rfl⟩
 have HN:=hid hn
 rw[←hn] at HB hl ⊢
 clear hR IH hn hlt
 go_enter Tryz.func126,Tryz.ntmps126
 go_wp2
 go_loopw [0,8,9] (fun b d ah wr=>∃ (dn f:Nat) (al bl:List Nat) (aa:Option Addr) (am ac:Nat) (ba:Option Addr) (bm bc:Nat),d=.int .i64 dn∧dn≤L∧ah=.slice aa am ac∧b=.slice ba bm bc∧Bytes wr (.slice aa am ac) al∧Bytes wr (.slice ba bm bc) bl ∧
  bl.length≤f∧bl.length≤1099511620000∧Tl.loop (Tl.within L) (decide (L=0)) set f bl al dn=R∧w.grownBy wr none) (fun b _ _ _=>lenS b)
 case atStart =>
  exact ⟨0,l.length,[],l,_,0,0,va,n,vc,rfl,Nat.zero_le _,rfl,rfl,⟨by simp,_,0,0,0,rfl,Nat.le_refl _,fun h=>absurd h (Nat.lt_irrefl _),fun j hj=>absurd hj (Nat.not_lt_zero _)⟩,HB.out.grown (World.grownBy_alloc _ _ _),Nat.le_refl _,by rw[←HN.out];exact hl,HRR.out.symm,World.grownBy_alloc _ _ _⟩
 case round =>
  obtain ⟨dn,f,al,bl,aa,am,ac,ba,bm,bc,rfl,hdn,rfl,rfl,hAl,hBl,hf,hbl,hloop,hgr⟩:=hrel
  have hbm:=hBl.cap.1
  have hbc:=hBl.cap.2
  have HAl:=hid hAl
  have HBl:=hid hBl
  have HLo:=hid hloop
  have HGr:=hid hgr
  clear hAl hBl hloop hgr
  by_cases hb0:bm=0
  ·subst hb0
   have hbl0:bl=[]:=List.eq_nil_of_length_eq_zero hbm.symm
   have HR:Hid (R=.ok dn):=hid (by rw[←HLo.out,hbl0];cases f <;> simp[Tl.loop])
   clear hf hbl hbm hbl0
   go_wp2
   go_ret2
   exact ⟨by rw[HX.out,HR.out];rfl,HGr.out⟩
  ·obtain ⟨f',rfl⟩:∃ f',f=f'+1:=⟨f-1,by omega⟩
   have hne:¬ bl=[]:=fun h=>hb0 (by rw[hbm,h];rfl)
   have HF:=hid (refNext_any _ bl wr HBl.out (by omega))
   have hbmx:bm≤1099511620000:=by omega
   have HBM:=hid hbm
   have HFL:=hid hf
   clear hbm hf hbl
   have d0:decide ((0:Int)<(bm:Int))=true:=decide_eq_true (by omega)
   cases hfst:Tl.first bl with
   |error k =>
    have HR:Hid (R=.error k):=hid (by rw[←HLo.out,Tl.loop,if_neg hne,hfst])
    rw[hfst] at HF
    have hk0:=De.first_err hfst
    have hkb:((k:Int) != 0)=true:=by simp;omega
    clear hfst hne
    go_wp2_with (go_at_call 125;refine HF.out.mono ?_;unfold NxR;rintro e w2 ⟨rfl,hg2⟩;have HG2:=hid hg2;clear hg2)
    go_ret2
    exact ⟨by rw[HX.out,HR.out];rfl,grown_trans HGr.out HG2.out⟩
   |ok p =>
    obtain ⟨t',i,n'⟩:=p
    have hlt8:=HBl.out.lt
    obtain ⟨_,hn5,hle,hbl2,_⟩:=De.first_inv hlt8 hfst
    have hi2:=Tl.first_two hfst
    obtain ⟨q,hq⟩:∃ q,q=i+n':=⟨_,rfl⟩
    have HQ:=hid hq
    have hqb:q≤bm:=by rw[HBM.out,hq];exact hle
    have hqi:i+n'=q:=hq.symm
    have HL1:Hid (R=if decide (L=0) then .error 6 else match Tl.within L t' ((bl.drop i).take n') with
      |.error e=>.error e
      |.ok m=>if set&&decide (Tl.cmpB (bl.take q) al<0) then .error 7 else Tl.loop (Tl.within L) (decide (L=0)) set f' (bl.drop q) (bl.take q) (max dn m)):=hid (by
     rw[←HLo.out,Tl.loop,if_neg hne,hfst,HQ.out]
     rfl)
    rw[hfst] at HF
    have HF2:Hid (Calls Tryz.prog 125 #[.slice ba bm bc] wr fun e w'=>e=.returned (.tuple #[.int .i64 (t':Int),.int .i64 (i:Int),.int .i64 (q:Int),.int .i64 0])∧wr.grownBy w' none):=hid (by rw[HQ.out];exact HF.out)
    have HMd:=hid (fun W=>refMade_any (t':Int) W)
    have HBd:Hid (Bytes wr (.slice (subA ba i bc) (q-i) (bc-i)) ((bl.drop i).take n')):=hid (by rw[show q-i=n' by omega];exact (HBl.out.from i (by omega)).to n' (by omega))
    have HBt:Hid (Bytes wr (.slice ba q bc) (bl.take q)):=hid (HBl.out.to q (by omega))
    have HBr:Hid (Bytes wr (.slice (subA ba q bc) (bm-q) (bc-q)) (bl.drop q)):=hid (HBl.out.from q (by omega))
    have hqn:q-i=n':=by omega
    have hiq:i≤q:=by omega
    have hqc:q≤bc:=by omega
    have HI2:=hid hi2
    have HHi:=hid hqi
    clear hqn
    clear hfst hne hle hbl2 HF hlt8 hq
    by_cases hL0:L=0
    ·subst hL0
     have HR:Hid (R=.error 6):=hid (by rw[HL1.out];rfl)
     clear HL1 HIH
     go_wp2_with (go_at_call 125;refine HF2.out.mono ?_;rintro e w2 ⟨rfl,hg2⟩;have HG2:=hid (grown_trans HGr.out hg2);have HG3:=hid hg2;clear hg2)
     go_ret2
     exact ⟨by rw[HX.out,HR.out];rfl,HG2.out⟩
    ·obtain ⟨K,rfl⟩:∃ K,L=K+1:=⟨L-1,by omega⟩
     have HK:=hid (HIH.out K rfl)
     have dL:decide (((K:Nat)+1:Int)<1)=false:=decide_eq_false (by omega)
     rw[De.within_whole] at HL1
     have HL2:Hid (R=match (if Tl.made t'=true then (match De.whole K (decide (t'=49)) ((bl.drop i).take n') with | .error e=>(.error e:Except Nat Nat) | .ok d=>.ok (1+d)) else .ok 1) with
       |.error e=>.error e
       |.ok m=>if set&&decide (Tl.cmpB (bl.take q) al<0) then .error 7 else Tl.loop (Tl.within (K+1)) (decide (K+1=0)) set f' (bl.drop q) (bl.take q) (max dn m)):=hid (by rw[HL1.out];rfl)
     clear HL1 HIH
     have hcx:=De.cmp_lex HBt.out.lt HAl.out.lt
     have hlex:=str_less (strOf (bl.take q)) (strOf al)
     rw[strL_strOf HBt.out.lt,strL_strOf HAl.out.lt,←hcx] at hlex
     have HLex:=hid hlex
     have HC:=hid (fun W x B (hx:Bytes W x B)=>conv_bytes (P:=Tryz.prog) hx 27 5 9 Tryz.underlying27 Tryz.underlying5 Tryz.underlying9)
     clear hcx hlex
     cases hm:Tl.made (t':Int) with
     |false =>
      have HL3:Hid (R=if set&&decide (Tl.cmpB (bl.take q) al<0) then .error 7 else Tl.loop (Tl.within (K+1)) (decide (K+1=0)) set f' (bl.drop q) (bl.take q) (max dn 1)):=hid (by rw[HL2.out,hm];rfl)
      rw[hm] at HMd
      clear HL2 hm
      obtain ⟨less,hless⟩:∃ less,less=decide (Tl.cmpB (bl.take q) al<0):=⟨_,rfl⟩
      rw[←hless] at HL3 HLex
      clear hless
      cases set with
      |false =>
       have HR:Hid (Tl.loop (Tl.within (K+1)) (decide (K+1=0)) false f' (bl.drop q) (bl.take q) (max dn 1)=R):=hid (by rw[HL3.out];rfl)
       clear HL3
       by_cases hmx:dn<1
       ·have dm:decide ((dn:Int)<1)=true:=decide_eq_true (by omega)
        go_wp2_with (first|(go_at_call 125;refine HF2.out.mono ?_;rintro e w4 ⟨rfl,hg2⟩;have HG2:=hid (grown_trans HGr.out hg2);have HG3:=hid hg2;have HG4:=hid hg2;clear hg2)|(go_at_call 95;refine (HMd.out _).mono ?_;rintro e wm ⟨rfl,hwm⟩;have hwm':=hwm.symm;subst hwm';clear hwm))
        all_goals
         go_quiet (fail)
         go_wp2
         go_roundw
         case rel=>first|exact ⟨1,f',bl.take q,bl.drop q,_,_,_,_,_,_,rfl,by omega,rfl,rfl,HBt.out.grown (grown_drewN HG4.out _),HBr.out.grown (grown_drewN HG4.out _),by rw[List.length_drop,←HBM.out];have:=HI2.out;have:=HHi.out;have:=HFL.out;have:=HBM.out;omega,by rw[List.length_drop,←HBM.out];omega,(by have h:=HR.out;rw[show max dn 1=1 by omega] at h;simpa using h),grown_trans HGr.out (grown_drewN HG4.out _)⟩|((repeat apply Exists.intro);refine ⟨⟨1,f',bl.take q,bl.drop q,_,_,_,_,_,_,rfl,by omega,rfl,rfl,HBt.out.grown (grown_drewN HG4.out _),HBr.out.grown (grown_drewN HG4.out _),by rw[List.length_drop,←HBM.out];have:=HI2.out;have:=HHi.out;have:=HFL.out;have:=HBM.out;omega,by rw[List.length_drop,←HBM.out];omega,(by have h:=HR.out;rw[show max dn 1=1 by omega] at h;simpa using h),grown_trans HGr.out (grown_drewN HG4.out _)⟩,?_⟩;and_intros <;> rfl)
         case measure=>have:=HI2.out;have:=HHi.out;simp[lenS];omega
       ·have dm:decide ((dn:Int)<1)=false:=decide_eq_false (by omega)
        go_wp2_with (first|(go_at_call 125;refine HF2.out.mono ?_;rintro e w4 ⟨rfl,hg2⟩;have HG2:=hid (grown_trans HGr.out hg2);have HG3:=hid hg2;have HG4:=hid hg2;clear hg2)|(go_at_call 95;refine (HMd.out _).mono ?_;rintro e wm ⟨rfl,hwm⟩;have hwm':=hwm.symm;subst hwm';clear hwm))
        all_goals
         go_quiet (fail)
         go_wp2
         go_roundw
         case rel=>first|exact ⟨dn,f',bl.take q,bl.drop q,_,_,_,_,_,_,rfl,by omega,rfl,rfl,HBt.out.grown (grown_drewN HG4.out _),HBr.out.grown (grown_drewN HG4.out _),by rw[List.length_drop,←HBM.out];have:=HI2.out;have:=HHi.out;have:=HFL.out;have:=HBM.out;omega,by rw[List.length_drop,←HBM.out];omega,(by have h:=HR.out;rw[show max dn 1=dn by omega] at h;simpa using h),grown_trans HGr.out (grown_drewN HG4.out _)⟩|((repeat apply Exists.intro);refine ⟨⟨dn,f',bl.take q,bl.drop q,_,_,_,_,_,_,rfl,by omega,rfl,rfl,HBt.out.grown (grown_drewN HG4.out _),HBr.out.grown (grown_drewN HG4.out _),by rw[List.length_drop,←HBM.out];have:=HI2.out;have:=HHi.out;have:=HFL.out;have:=HBM.out;omega,by rw[List.length_drop,←HBM.out];omega,(by have h:=HR.out;rw[show max dn 1=dn by omega] at h;simpa using h),grown_trans HGr.out (grown_drewN HG4.out _)⟩,?_⟩;and_intros <;> rfl)
         case measure=>have:=HI2.out;have:=HHi.out;simp[lenS];omega
      |true =>
       cases less with
       |true =>
        have HR:Hid (R=.error 7):=hid (by rw[HL3.out];rfl)
        clear HL3
        go_wp2_with (first|(go_at_call 125;refine HF2.out.mono ?_;rintro e w4 ⟨rfl,hg2⟩;have HG2:=hid (grown_trans HGr.out hg2);have HG3:=hid hg2;have HG4:=hid hg2;clear hg2)|(go_at_call 95;refine (HMd.out _).mono ?_;rintro e wm ⟨rfl,hwm⟩;have hwm':=hwm.symm;subst hwm';clear hwm))
        all_goals
         have c1:∀ m,(convert 27 9 (.slice ba q bc)).run Tryz.prog (w4.drewN m)=.ok (.string (strOf (bl.take q))) (w4.drewN m):=fun m=>HC.out _ _ _ (HBt.out.grown (grown_drewN HG4.out m))
         have c2:∀ m,(convert 27 9 (.slice aa am ac)).run Tryz.prog (w4.drewN m)=.ok (.string (strOf al)) (w4.drewN m):=fun m=>HC.out _ _ _ (HAl.out.grown (grown_drewN HG4.out m))
         generalize strOf (bl.take q)=s1 at *
         generalize strOf al=s2 at *
         go_quiet (fail)
         simp only[HLex.out]
         go_wp2
         go_ret2
         exact ⟨by rw[HX.out,HR.out];rfl,grown_trans HGr.out (grown_drewN HG4.out _)⟩
       |false =>
        have HR:Hid (Tl.loop (Tl.within (K+1)) (decide (K+1=0)) true f' (bl.drop q) (bl.take q) (max dn 1)=R):=hid (by rw[HL3.out];rfl)
        clear HL3
        by_cases hmx:dn<1
        ·have dm:decide ((dn:Int)<1)=true:=decide_eq_true (by omega)
         go_wp2_with (first|(go_at_call 125;refine HF2.out.mono ?_;rintro e w4 ⟨rfl,hg2⟩;have HG2:=hid (grown_trans HGr.out hg2);have HG3:=hid hg2;have HG4:=hid hg2;clear hg2)|(go_at_call 95;refine (HMd.out _).mono ?_;rintro e wm ⟨rfl,hwm⟩;have hwm':=hwm.symm;subst hwm';clear hwm))
         all_goals
          have c1:∀ m,(convert 27 9 (.slice ba q bc)).run Tryz.prog (w4.drewN m)=.ok (.string (strOf (bl.take q))) (w4.drewN m):=fun m=>HC.out _ _ _ (HBt.out.grown (grown_drewN HG4.out m))
          have c2:∀ m,(convert 27 9 (.slice aa am ac)).run Tryz.prog (w4.drewN m)=.ok (.string (strOf al)) (w4.drewN m):=fun m=>HC.out _ _ _ (HAl.out.grown (grown_drewN HG4.out m))
          generalize strOf (bl.take q)=s1 at *
          generalize strOf al=s2 at *
          go_quiet (fail)
          simp only[HLex.out]
          go_wp2
          go_roundw
          case rel=>first|exact ⟨1,f',bl.take q,bl.drop q,_,_,_,_,_,_,rfl,by omega,rfl,rfl,HBt.out.grown (grown_drewN HG4.out _),HBr.out.grown (grown_drewN HG4.out _),by rw[List.length_drop,←HBM.out];have:=HI2.out;have:=HHi.out;have:=HFL.out;have:=HBM.out;omega,by rw[List.length_drop,←HBM.out];omega,(by have h:=HR.out;rw[show max dn 1=1 by omega] at h;simpa using h),grown_trans HGr.out (grown_drewN HG4.out _)⟩|((repeat apply Exists.intro);refine ⟨⟨1,f',bl.take q,bl.drop q,_,_,_,_,_,_,rfl,by omega,rfl,rfl,HBt.out.grown (grown_drewN HG4.out _),HBr.out.grown (grown_drewN HG4.out _),by rw[List.length_drop,←HBM.out];have:=HI2.out;have:=HHi.out;have:=HFL.out;have:=HBM.out;omega,by rw[List.length_drop,←HBM.out];omega,(by have h:=HR.out;rw[show max dn 1=1 by omega] at h;simpa using h),grown_trans HGr.out (grown_drewN HG4.out _)⟩,?_⟩;and_intros <;> rfl)
          case measure=>have:=HI2.out;have:=HHi.out;simp[lenS];omega
        ·have dm:decide ((dn:Int)<1)=false:=decide_eq_false (by omega)
         go_wp2_with (first|(go_at_call 125;refine HF2.out.mono ?_;rintro e w4 ⟨rfl,hg2⟩;have HG2:=hid (grown_trans HGr.out hg2);have HG3:=hid hg2;have HG4:=hid hg2;clear hg2)|(go_at_call 95;refine (HMd.out _).mono ?_;rintro e wm ⟨rfl,hwm⟩;have hwm':=hwm.symm;subst hwm';clear hwm))
         all_goals
          have c1:∀ m,(convert 27 9 (.slice ba q bc)).run Tryz.prog (w4.drewN m)=.ok (.string (strOf (bl.take q))) (w4.drewN m):=fun m=>HC.out _ _ _ (HBt.out.grown (grown_drewN HG4.out m))
          have c2:∀ m,(convert 27 9 (.slice aa am ac)).run Tryz.prog (w4.drewN m)=.ok (.string (strOf al)) (w4.drewN m):=fun m=>HC.out _ _ _ (HAl.out.grown (grown_drewN HG4.out m))
          generalize strOf (bl.take q)=s1 at *
          generalize strOf al=s2 at *
          go_quiet (fail)
          simp only[HLex.out]
          go_wp2
          go_roundw
          case rel=>first|exact ⟨dn,f',bl.take q,bl.drop q,_,_,_,_,_,_,rfl,by omega,rfl,rfl,HBt.out.grown (grown_drewN HG4.out _),HBr.out.grown (grown_drewN HG4.out _),by rw[List.length_drop,←HBM.out];have:=HI2.out;have:=HHi.out;have:=HFL.out;have:=HBM.out;omega,by rw[List.length_drop,←HBM.out];omega,(by have h:=HR.out;rw[show max dn 1=dn by omega] at h;simpa using h),grown_trans HGr.out (grown_drewN HG4.out _)⟩|((repeat apply Exists.intro);refine ⟨⟨dn,f',bl.take q,bl.drop q,_,_,_,_,_,_,rfl,by omega,rfl,rfl,HBt.out.grown (grown_drewN HG4.out _),HBr.out.grown (grown_drewN HG4.out _),by rw[List.length_drop,←HBM.out];have:=HI2.out;have:=HHi.out;have:=HFL.out;have:=HBM.out;omega,by rw[List.length_drop,←HBM.out];omega,(by have h:=HR.out;rw[show max dn 1=dn by omega] at h;simpa using h),grown_trans HGr.out (grown_drewN HG4.out _)⟩,?_⟩;and_intros <;> rfl)
          case measure=>have:=HI2.out;have:=HHi.out;simp[lenS];omega
     |true =>
      rw[hm] at HMd HL2
      have e49:((t':Int)==49)=decide (t'=49):=by rw[Bool.eq_iff_iff];simp;omega
      obtain ⟨r',hr'⟩:∃ r',r'=De.whole K (decide (t'=49)) ((bl.drop i).take n'):=⟨_,rfl⟩
      have HI:Hid (∀ W,wr.grownBy W none→Calls Tryz.prog 126 #[.slice (subA ba i bc) (q-i) (bc-i),.int .i64 (K:Int),.bool ((t':Int)==49)] W fun e w'=>e=WhR r'∧W.grownBy w' none):=hid (fun W hW=>by
       rw[hr',e49]
       exact HK.out _ _ _ W (HBd.out.grown hW) (by rw[List.length_take,List.length_drop,←HBM.out];omega))
      have hle2:=fun m (h:r'=.ok m)=>De.whole_le (hr' ▸ h)
      have her2:=fun k (h:r'=.error k)=>De.whole_err (hr' ▸ h)
      rw[←hr'] at HL2
      clear hr' hm HK e49
      cases r' with
      |error k =>
       have HR:Hid (R=.error k):=hid (by rw[HL2.out];rfl)
       have HI3:Hid (∀ W,wr.grownBy W none→Calls Tryz.prog 126 #[.slice (subA ba i bc) (q-i) (bc-i),.int .i64 (K:Int),.bool ((t':Int)==49)] W fun e w'=>e=.returned (.tuple #[.int .i64 0,.int .i64 (k:Int)])∧W.grownBy w' none):=hid (fun W hW=>HI.out W hW)
       have hkb:((k:Int) != 0)=true:=by have:=her2 k rfl;simp;omega
       clear HL2
       go_wp2_with (first|(go_at_call 125;refine HF2.out.mono ?_;rintro e w2 ⟨rfl,hg2⟩;have HG2:=hid (grown_trans HGr.out hg2);have HG3:=hid hg2;clear hg2)|(go_at_call 95;refine (HMd.out _).mono ?_;rintro e w3 ⟨rfl,hw3⟩;have hw3':=hw3.symm;subst hw3';clear hw3)|(go_at_call 126;refine (HI3.out _ HG3.out).mono ?_;rintro e w4 ⟨rfl,hg4⟩;have HG4:=hid (grown_trans HG3.out hg4);clear hg4))
       all_goals
        go_ret2
        exact ⟨by rw[HX.out,HR.out];rfl,grown_trans HGr.out HG4.out⟩
      |ok mm =>
       have hmm:=hle2 mm rfl
       have HL3:Hid (R=if set&&decide (Tl.cmpB (bl.take q) al<0) then .error 7 else Tl.loop (Tl.within (K+1)) (decide (K+1=0)) set f' (bl.drop q) (bl.take q) (max dn (1+mm))):=hid (by rw[HL2.out];rfl)
       have HI3:Hid (∀ W,wr.grownBy W none→Calls Tryz.prog 126 #[.slice (subA ba i bc) (q-i) (bc-i),.int .i64 (K:Int),.bool ((t':Int)==49)] W fun e w'=>e=.returned (.tuple #[.int .i64 (mm:Int),.int .i64 0])∧W.grownBy w' none):=hid (fun W hW=>HI.out W hW)
       clear HL2 hle2 her2
       obtain ⟨less,hless⟩:∃ less,less=decide (Tl.cmpB (bl.take q) al<0):=⟨_,rfl⟩
       rw[←hless] at HL3 HLex
       clear hless
       cases set with
       |false =>
        have HR:Hid (Tl.loop (Tl.within (K+1)) (decide (K+1=0)) false f' (bl.drop q) (bl.take q) (max dn (1+mm))=R):=hid (by rw[HL3.out];rfl)
        clear HL3
        by_cases hmx:dn<(1+mm)
        ·have dm:decide ((dn:Int)<1+(mm:Int))=true:=decide_eq_true (by omega)
         go_wp2_with (first|(go_at_call 125;refine HF2.out.mono ?_;rintro e w2 ⟨rfl,hg2⟩;have HG2:=hid (grown_trans HGr.out hg2);have HG3:=hid hg2;clear hg2)|(go_at_call 95;refine (HMd.out _).mono ?_;rintro e w3 ⟨rfl,hw3⟩;have hw3':=hw3.symm;subst hw3';clear hw3)|(go_at_call 126;refine (HI3.out _ HG3.out).mono ?_;rintro e w4 ⟨rfl,hg4⟩;have HG4:=hid (grown_trans HG3.out hg4);clear hg4))
         all_goals
          go_quiet (fail)
          go_wp2
          go_roundw
          case rel=>first|(refine ⟨(1+mm),f',bl.take q,bl.drop q,_,_,_,_,_,_,?_,by omega,rfl,rfl,HBt.out.grown (grown_drewN HG4.out _),HBr.out.grown (grown_drewN HG4.out _),by rw[List.length_drop,←HBM.out];have:=HI2.out;have:=HHi.out;have:=HFL.out;have:=HBM.out;omega,by rw[List.length_drop,←HBM.out];omega,(by have h:=HR.out;rw[show max dn (1+mm)=(1+mm) by omega] at h;simpa using h),grown_trans HGr.out (grown_drewN HG4.out _)⟩;refine congrArg (Value.int IntKind.i64) ?_;omega)|((repeat apply Exists.intro);refine ⟨⟨(1+mm),f',bl.take q,bl.drop q,_,_,_,_,_,_,?_,by omega,rfl,rfl,HBt.out.grown (grown_drewN HG4.out _),HBr.out.grown (grown_drewN HG4.out _),by rw[List.length_drop,←HBM.out];have:=HI2.out;have:=HHi.out;have:=HFL.out;have:=HBM.out;omega,by rw[List.length_drop,←HBM.out];omega,(by have h:=HR.out;rw[show max dn (1+mm)=(1+mm) by omega] at h;simpa using h),grown_trans HGr.out (grown_drewN HG4.out _)⟩,?_⟩;rotate_left;(and_intros <;> rfl);(refine congrArg (Value.int IntKind.i64) ?_;omega))
          case measure=>have:=HI2.out;have:=HHi.out;simp[lenS];omega
        ·have dm:decide ((dn:Int)<1+(mm:Int))=false:=decide_eq_false (by omega)
         go_wp2_with (first|(go_at_call 125;refine HF2.out.mono ?_;rintro e w2 ⟨rfl,hg2⟩;have HG2:=hid (grown_trans HGr.out hg2);have HG3:=hid hg2;clear hg2)|(go_at_call 95;refine (HMd.out _).mono ?_;rintro e w3 ⟨rfl,hw3⟩;have hw3':=hw3.symm;subst hw3';clear hw3)|(go_at_call 126;refine (HI3.out _ HG3.out).mono ?_;rintro e w4 ⟨rfl,hg4⟩;have HG4:=hid (grown_trans HG3.out hg4);clear hg4))
         all_goals
          go_quiet (fail)
          go_wp2
          go_roundw
          case rel=>first|exact ⟨dn,f',bl.take q,bl.drop q,_,_,_,_,_,_,rfl,by omega,rfl,rfl,HBt.out.grown (grown_drewN HG4.out _),HBr.out.grown (grown_drewN HG4.out _),by rw[List.length_drop,←HBM.out];have:=HI2.out;have:=HHi.out;have:=HFL.out;have:=HBM.out;omega,by rw[List.length_drop,←HBM.out];omega,(by have h:=HR.out;rw[show max dn (1+mm)=dn by omega] at h;simpa using h),grown_trans HGr.out (grown_drewN HG4.out _)⟩|((repeat apply Exists.intro);refine ⟨⟨dn,f',bl.take q,bl.drop q,_,_,_,_,_,_,rfl,by omega,rfl,rfl,HBt.out.grown (grown_drewN HG4.out _),HBr.out.grown (grown_drewN HG4.out _),by rw[List.length_drop,←HBM.out];have:=HI2.out;have:=HHi.out;have:=HFL.out;have:=HBM.out;omega,by rw[List.length_drop,←HBM.out];omega,(by have h:=HR.out;rw[show max dn (1+mm)=dn by omega] at h;simpa using h),grown_trans HGr.out (grown_drewN HG4.out _)⟩,?_⟩;and_intros <;> rfl)
          case measure=>have:=HI2.out;have:=HHi.out;simp[lenS];omega
       |true =>
        cases less with
        |true =>
         have HR:Hid (R=.error 7):=hid (by rw[HL3.out];rfl)
         clear HL3
         go_wp2_with (first|(go_at_call 125;refine HF2.out.mono ?_;rintro e w2 ⟨rfl,hg2⟩;have HG2:=hid (grown_trans HGr.out hg2);have HG3:=hid hg2;clear hg2)|(go_at_call 95;refine (HMd.out _).mono ?_;rintro e w3 ⟨rfl,hw3⟩;have hw3':=hw3.symm;subst hw3';clear hw3)|(go_at_call 126;refine (HI3.out _ HG3.out).mono ?_;rintro e w4 ⟨rfl,hg4⟩;have HG4:=hid (grown_trans HG3.out hg4);clear hg4))
         all_goals
          have c1:∀ m,(convert 27 9 (.slice ba q bc)).run Tryz.prog (w4.drewN m)=.ok (.string (strOf (bl.take q))) (w4.drewN m):=fun m=>HC.out _ _ _ (HBt.out.grown (grown_drewN HG4.out m))
          have c2:∀ m,(convert 27 9 (.slice aa am ac)).run Tryz.prog (w4.drewN m)=.ok (.string (strOf al)) (w4.drewN m):=fun m=>HC.out _ _ _ (HAl.out.grown (grown_drewN HG4.out m))
          generalize strOf (bl.take q)=s1 at *
          generalize strOf al=s2 at *
          go_quiet (fail)
          simp only[HLex.out]
          go_wp2
          go_ret2
          exact ⟨by rw[HX.out,HR.out];rfl,grown_trans HGr.out (grown_drewN HG4.out _)⟩
        |false =>
         have HR:Hid (Tl.loop (Tl.within (K+1)) (decide (K+1=0)) true f' (bl.drop q) (bl.take q) (max dn (1+mm))=R):=hid (by rw[HL3.out];rfl)
         clear HL3
         by_cases hmx:dn<(1+mm)
         ·have dm:decide ((dn:Int)<1+(mm:Int))=true:=decide_eq_true (by omega)
          go_wp2_with (first|(go_at_call 125;refine HF2.out.mono ?_;rintro e w2 ⟨rfl,hg2⟩;have HG2:=hid (grown_trans HGr.out hg2);have HG3:=hid hg2;clear hg2)|(go_at_call 95;refine (HMd.out _).mono ?_;rintro e w3 ⟨rfl,hw3⟩;have hw3':=hw3.symm;subst hw3';clear hw3)|(go_at_call 126;refine (HI3.out _ HG3.out).mono ?_;rintro e w4 ⟨rfl,hg4⟩;have HG4:=hid (grown_trans HG3.out hg4);clear hg4))
          all_goals
           have c1:∀ m,(convert 27 9 (.slice ba q bc)).run Tryz.prog (w4.drewN m)=.ok (.string (strOf (bl.take q))) (w4.drewN m):=fun m=>HC.out _ _ _ (HBt.out.grown (grown_drewN HG4.out m))
           have c2:∀ m,(convert 27 9 (.slice aa am ac)).run Tryz.prog (w4.drewN m)=.ok (.string (strOf al)) (w4.drewN m):=fun m=>HC.out _ _ _ (HAl.out.grown (grown_drewN HG4.out m))
           generalize strOf (bl.take q)=s1 at *
           generalize strOf al=s2 at *
           go_quiet (fail)
           simp only[HLex.out]
           go_wp2
           go_roundw
           case rel=>first|(refine ⟨(1+mm),f',bl.take q,bl.drop q,_,_,_,_,_,_,?_,by omega,rfl,rfl,HBt.out.grown (grown_drewN HG4.out _),HBr.out.grown (grown_drewN HG4.out _),by rw[List.length_drop,←HBM.out];have:=HI2.out;have:=HHi.out;have:=HFL.out;have:=HBM.out;omega,by rw[List.length_drop,←HBM.out];omega,(by have h:=HR.out;rw[show max dn (1+mm)=(1+mm) by omega] at h;simpa using h),grown_trans HGr.out (grown_drewN HG4.out _)⟩;refine congrArg (Value.int IntKind.i64) ?_;omega)|((repeat apply Exists.intro);refine ⟨⟨(1+mm),f',bl.take q,bl.drop q,_,_,_,_,_,_,?_,by omega,rfl,rfl,HBt.out.grown (grown_drewN HG4.out _),HBr.out.grown (grown_drewN HG4.out _),by rw[List.length_drop,←HBM.out];have:=HI2.out;have:=HHi.out;have:=HFL.out;have:=HBM.out;omega,by rw[List.length_drop,←HBM.out];omega,(by have h:=HR.out;rw[show max dn (1+mm)=(1+mm) by omega] at h;simpa using h),grown_trans HGr.out (grown_drewN HG4.out _)⟩,?_⟩;rotate_left;(and_intros <;> rfl);(refine congrArg (Value.int IntKind.i64) ?_;omega))
           case measure=>have:=HI2.out;have:=HHi.out;simp[lenS];omega
         ·have dm:decide ((dn:Int)<1+(mm:Int))=false:=decide_eq_false (by omega)
          go_wp2_with (first|(go_at_call 125;refine HF2.out.mono ?_;rintro e w2 ⟨rfl,hg2⟩;have HG2:=hid (grown_trans HGr.out hg2);have HG3:=hid hg2;clear hg2)|(go_at_call 95;refine (HMd.out _).mono ?_;rintro e w3 ⟨rfl,hw3⟩;have hw3':=hw3.symm;subst hw3';clear hw3)|(go_at_call 126;refine (HI3.out _ HG3.out).mono ?_;rintro e w4 ⟨rfl,hg4⟩;have HG4:=hid (grown_trans HG3.out hg4);clear hg4))
          all_goals
           have c1:∀ m,(convert 27 9 (.slice ba q bc)).run Tryz.prog (w4.drewN m)=.ok (.string (strOf (bl.take q))) (w4.drewN m):=fun m=>HC.out _ _ _ (HBt.out.grown (grown_drewN HG4.out m))
           have c2:∀ m,(convert 27 9 (.slice aa am ac)).run Tryz.prog (w4.drewN m)=.ok (.string (strOf al)) (w4.drewN m):=fun m=>HC.out _ _ _ (HAl.out.grown (grown_drewN HG4.out m))
           generalize strOf (bl.take q)=s1 at *
           generalize strOf al=s2 at *
           go_quiet (fail)
           simp only[HLex.out]
           go_wp2
           go_roundw
           case rel=>first|exact ⟨dn,f',bl.take q,bl.drop q,_,_,_,_,_,_,rfl,by omega,rfl,rfl,HBt.out.grown (grown_drewN HG4.out _),HBr.out.grown (grown_drewN HG4.out _),by rw[List.length_drop,←HBM.out];have:=HI2.out;have:=HHi.out;have:=HFL.out;have:=HBM.out;omega,by rw[List.length_drop,←HBM.out];omega,(by have h:=HR.out;rw[show max dn (1+mm)=dn by omega] at h;simpa using h),grown_trans HGr.out (grown_drewN HG4.out _)⟩|((repeat apply Exists.intro);refine ⟨⟨dn,f',bl.take q,bl.drop q,_,_,_,_,_,_,rfl,by omega,rfl,rfl,HBt.out.grown (grown_drewN HG4.out _),HBr.out.grown (grown_drewN HG4.out _),by rw[List.length_drop,←HBM.out];have:=HI2.out;have:=HHi.out;have:=HFL.out;have:=HBM.out;omega,by rw[List.length_drop,←HBM.out];omega,(by have h:=HR.out;rw[show max dn (1+mm)=dn by omega] at h;simpa using h),grown_trans HGr.out (grown_drewN HG4.out _)⟩,?_⟩;and_intros <;> rfl)
           case measure=>have:=HI2.out;have:=HHi.out;simp[lenS];omega
theorem refWhole_any:∀ (L:Nat),L≤16→IsW L
 |0,h=>whole_step 0 h (fun K e=>absurd e (by omega))
 |L+1,h=>whole_step (L+1) h (fun K e=>by
   obtain rfl:L=K:=by omega
   exact refWhole_any L (by omega))
theorem refCheck_any (v:Value) (l:List Nat) (w:World) (hB:Bytes w v l) (hl:l.length≤1099511620000) :
  Calls Tryz.prog 98 #[v] w fun e w'=>e=WhR (Tl.levels l)∧w.grownBy w' none:=by
 have hlt:=hB.lt
 rw[←De.check_levels l hlt]
 have HB:=hid hB
 obtain ⟨_,va,vsb,vso,vc,rfl,_⟩:=hB
 obtain ⟨n,hn⟩:∃ n,n=l.length:=⟨_,rfl⟩
 have HN:=hid hn
 rw[←hn] at HB hl ⊢
 have HF:=hid (refNext_any _ l w HB.out (by rw[←hn];omega))
 have HW:=hid (fun W (hW:w.grownBy W none)=>refWhole_any 16 (by decide) false _ l W (HB.out.grown hW) (by rw[←hn];exact hl))
 by_cases h1:65536<n
 ·have HX:Hid (De.check l=.error 3):=hid (by unfold De.check;rw[if_pos (by rw[←HN.out];exact h1)])
  clear hn
  go_enter Tryz.func98,Tryz.ntmps98
  go_wp2
  go_ret2
  exact ⟨by rw[HX.out];rfl,grown_refl _ _⟩
 ·have HX0:Hid (De.check l=match Tl.first l with
   |.error e=>.error e
   |.ok (_,i,m)=>if i+m<n then .error 4 else De.whole 16 false l):=hid (by unfold De.check;rw[if_neg (by rw[←HN.out];exact h1),←HN.out];try rfl)
  clear hn
  cases hf:Tl.first l with
  |error k =>
   have HX:Hid (De.check l=.error k):=hid (by rw[HX0.out,hf])
   have hk0:=De.first_err hf
   have hkb:((k:Int) != 0)=true:=by simp;omega
   have HF2:Hid (Calls Tryz.prog 125 #[.slice va n vc] w fun e w'=>e=.returned (.tuple #[.int .i64 0,.int .i64 0,.int .i64 0,.int .i64 (k:Int)])∧w.grownBy w' none):=hid (by have:=HF.out;rw[hf] at this;exact this)
   clear hf HX0 HF
   go_enter Tryz.func98,Tryz.ntmps98
   go_wp2_with (go_at_call 125;refine HF2.out.mono ?_;rintro e w2 ⟨rfl,hg2⟩;have HG2:=hid hg2;clear hg2)
   go_ret2
   exact ⟨by rw[HX.out];rfl,HG2.out⟩
  |ok p =>
   obtain ⟨t,i,m⟩:=p
   obtain ⟨q,hq⟩:∃ q,q=i+m:=⟨_,rfl⟩
   have HF2:Hid (Calls Tryz.prog 125 #[.slice va n vc] w fun e w'=>e=.returned (.tuple #[.int .i64 (t:Int),.int .i64 (i:Int),.int .i64 (q:Int),.int .i64 0])∧w.grownBy w' none):=hid (by have:=HF.out;rw[hf] at this;rw[hq];exact this)
   have HX1:Hid (De.check l=if q<n then .error 4 else De.whole 16 false l):=hid (by rw[HX0.out,hf,hq])
   clear hf HX0 HF hq
   by_cases hqn:q<n
   ·have HX:Hid (De.check l=.error 4):=hid (by rw[HX1.out,if_pos hqn])
    clear HX1
    go_enter Tryz.func98,Tryz.ntmps98
    go_wp2_with (go_at_call 125;refine HF2.out.mono ?_;rintro e w2 ⟨rfl,hg2⟩;have HG2:=hid hg2;clear hg2)
    go_ret2
    exact ⟨by rw[HX.out];rfl,HG2.out⟩
   ·have HX:Hid (De.check l=De.whole 16 false l):=hid (by rw[HX1.out,if_neg hqn])
    clear HX1
    obtain ⟨r,hr⟩:∃ r,r=De.whole 16 false l:=⟨_,rfl⟩
    rw[←hr] at HX HW
    clear hr
    cases r with
    |error k =>
     have HW2:Hid (∀ W,w.grownBy W none→Calls Tryz.prog 126 #[.slice va n vc,.int .i64 16,.bool false] W fun e w'=>e=.returned (.tuple #[.int .i64 0,.int .i64 (k:Int)])∧W.grownBy w' none):=hid (fun W hW=>HW.out W hW)
     clear HW
     go_enter Tryz.func98,Tryz.ntmps98
     go_wp2_with (first
      |(go_at_call 125;refine HF2.out.mono ?_;rintro e w2 ⟨rfl,hg2⟩;have HG2:=hid hg2;clear hg2)
      |(go_at_call 126;refine (HW2.out _ HG2.out).mono ?_;rintro e w3 ⟨rfl,hg3⟩;have HG3:=hid (grown_trans HG2.out hg3);clear hg3))
     go_ret2
     exact ⟨by rw[HX.out];rfl,HG3.out⟩
    |ok d =>
     have HW2:Hid (∀ W,w.grownBy W none→Calls Tryz.prog 126 #[.slice va n vc,.int .i64 16,.bool false] W fun e w'=>e=.returned (.tuple #[.int .i64 (d:Int),.int .i64 0])∧W.grownBy w' none):=hid (fun W hW=>HW.out W hW)
     clear HW
     go_enter Tryz.func98,Tryz.ntmps98
     go_wp2_with (first
      |(go_at_call 125;refine HF2.out.mono ?_;rintro e w2 ⟨rfl,hg2⟩;have HG2:=hid hg2;clear hg2)
      |(go_at_call 126;refine (HW2.out _ HG2.out).mono ?_;rintro e w3 ⟨rfl,hg3⟩;have HG3:=hid (grown_trans HG2.out hg3);clear hg3))
     go_ret2
     exact ⟨by rw[HX.out];rfl,HG3.out⟩
end Go.Proofs.YtjjbkpjjmbfdhaaGreatDoor
namespace Go.Proofs.YtjjbkpjjmbfdhaaGreatDoor
open Lib (hid)
namespace De
def Seen (k:Nat) (b:List Nat):Prop:=(∀ x∈b,x<256)∧∃ one set f a d m,b.length≤f∧Tl.loop (Tl.within k) one set f b a d=.ok m
theorem seen_first {k:Nat} {b:List Nat} (h:Seen k b) (hb:b≠[]):∃ t i n,Tl.first b=.ok (t,i,n)∧2≤i∧i+n≤b.length∧Tl.known (t:Nat)=true∧n≤65530∧Seen k (b.drop (i+n)) ∧
  b.take (i+n)=Tl.elem t ((b.drop i).take n)∧(Tl.made (t:Nat)=true→1≤k∧Seen (k-1) ((b.drop i).take n)):=by
 obtain ⟨h8,one,set,f,a,d,m,hf,hl⟩:=h
 cases f with
 |zero=>exact absurd (List.length_eq_zero_iff.1 (by omega)) hb
 |succ f =>
  rw[Tl.loop,if_neg hb] at hl
  cases hq:Tl.first b with
  |error e=>rw[hq] at hl;exact absurd hl (by simp)
  |ok p =>
   obtain ⟨t,i,n⟩:=p
   rw[hq] at hl
   obtain ⟨hk,hn,hin,hlen,he⟩:=first_inv h8 hq
   have h2:=Tl.first_two hq
   cases one with
   |true=>exact absurd hl (by simp)
   |false =>
    have hl:(match Tl.within k t ((b.drop i).take n) with
     |.error e=>(Except.error e:Except Nat Nat)
     |.ok m=>if set&&decide (Tl.cmpB (b.take (i+n)) a<0) then .error 7 else Tl.loop (Tl.within k) false set f (b.drop (i+n)) (b.take (i+n)) (max d m))=.ok m:=hl
    cases hw:Tl.within k t ((b.drop i).take n) with
    |error e=>rw[hw] at hl;exact absurd hl (by simp)
    |ok m2 =>
     rw[hw] at hl
     have hl:(if set&&decide (Tl.cmpB (b.take (i+n)) a<0) then .error 7 else Tl.loop (Tl.within k) false set f (b.drop (i+n)) (b.take (i+n)) (max d m2))=(Except.ok m:Except Nat Nat):=hl
     by_cases hs:(set&&decide (Tl.cmpB (b.take (i+n)) a<0))=true
     ·rw[if_pos hs] at hl;exact absurd hl (by simp)
     rw[if_neg hs] at hl
     refine ⟨t,i,n,rfl,h2,hin,hk,hn,⟨fun x hx=>h8 x (List.mem_of_mem_drop hx),_,_,f,_,_,m,?_,hl⟩,he,fun hm=>?_⟩
     ·rw[List.length_drop];omega
     ·cases k with
      |zero=>rw[Tl.within] at hw;exact absurd hw (by simp)
      |succ k =>
       rw[within_whole,if_pos hm] at hw
       cases hq2:whole k (decide (t=49)) ((b.drop i).take n) with
       |error e=>rw[hq2] at hw;exact absurd hw (by simp)
       |ok m3=>exact ⟨by omega,fun x hx=>h8 x (List.mem_of_mem_drop (List.mem_of_mem_take hx)),_,_,_,_,_,m3,Nat.le_refl _,hq2⟩
theorem seen_all:∀ (f k:Nat) (b:List Nat),Seen k b→b.length≤f→∃ ps,all f b=.ok ps
 |0,_,_,_,_=>⟨[],rfl⟩
 |f+1,k,b,h,hf=>by
  by_cases hb:b=[]
  ·exact ⟨[],by rw[all,if_pos hb]⟩
  ·obtain ⟨t,i,n,hq,h2,hin,_,_,hr,_⟩:=seen_first h hb
   obtain ⟨ps,hp⟩:=seen_all f k _ hr (by rw[List.length_drop];omega)
   exact ⟨(t,(b.drop i).take n) :: ps,by rw[all,if_neg hb,hq];show (match all f _ with | .error e=>_ | .ok r=>_)=_;rw[hp]⟩
theorem all_room:∀ (f g k:Nat) (b:List Nat),Seen k b→b.length≤f→b.length≤g→all f b=all g b
 |f,g,k,b,h,hf,hg=>by
  by_cases hb:b=[]
  ·subst hb;cases f <;> cases g <;> simp[all]
  ·obtain ⟨t,i,n,hq,h2,hin,_,_,hr,_⟩:=seen_first h hb
   have hpos:0<b.length:=List.length_pos_iff.2 hb
   obtain ⟨f,rfl⟩:∃ x,f=x+1:=⟨f-1,by omega⟩
   obtain ⟨g,rfl⟩:∃ x,g=x+1:=⟨g-1,by omega⟩
   rw[all,if_neg hb,all,if_neg hb,hq]
   show (match all f _ with | .error e=>_ | .ok r=>_)=(match all g _ with | .error e=>_ | .ok r=>_)
   rw[all_room f g k _ hr (by rw[List.length_drop];omega) (by rw[List.length_drop];omega)]
 termination_by f=>f
def elems (b:List Nat):List (Nat×List Nat):=match all b.length b with
 |.error _=>[]
 |.ok r=>r
theorem elems_nil:elems []=[]:=rfl
theorem elems_all {k:Nat} {b:List Nat} (h:Seen k b):all b.length b=.ok (elems b):=by
 obtain ⟨ps,hp⟩:=seen_all b.length k b h (Nat.le_refl _)
 unfold elems;rw[hp]
theorem elems_cons {k:Nat} {b:List Nat} (h:Seen k b) (hb:b≠[]) {t i n:Nat} (hq:Tl.first b=.ok (t,i,n)):elems b=(t,(b.drop i).take n) :: elems (b.drop (i+n)):=by
 obtain ⟨t2,i2,n2,hq2,h2,hin,_,_,hr,_⟩:=seen_first h hb
 rw[hq] at hq2
 obtain ⟨rfl,h3⟩:=Prod.mk.inj (Except.ok.inj hq2)
 obtain ⟨rfl,rfl⟩:=Prod.mk.inj h3
 have hpos:0<b.length:=List.length_pos_iff.2 hb
 have e1:=elems_all h
 obtain ⟨f,hf⟩:∃ x,b.length=x+1:=⟨b.length-1,by omega⟩
 rw[hf,all,if_neg hb,hq] at e1
 have e1:(match all f (b.drop (i+n)) with | .error e=>(Except.error e:Except Nat (List (Nat×List Nat))) | .ok r=>.ok ((t,(b.drop i).take n) :: r))=.ok (elems b):=e1
 rw[all_room f (b.drop (i+n)).length k _ hr (by rw[List.length_drop];omega) (Nat.le_refl _),elems_all hr] at e1
 exact (Except.ok.inj e1).symm
theorem elems_none {k:Nat} {b:List Nat} (h:Seen k b):elems b=[]↔b=[]:=by
 refine ⟨fun e=>?_,fun e=>by rw[e];rfl⟩
 by_cases hb:b=[]
 ·exact hb
 ·obtain ⟨t,i,n,hq,_⟩:=seen_first h hb
  rw[elems_cons h hb hq] at e
  exact absurd e (by simp)
theorem seen_levels {b:List Nat} {m:Nat} (h8:∀ x∈b,x<256) (h:Tl.levels b=.ok m):Seen 16 b:=by
 rw[←check_levels b h8] at h
 unfold check at h
 by_cases h1:65536<b.length
 ·rw[if_pos h1] at h;exact absurd h (by simp)
 rw[if_neg h1] at h
 cases hf:Tl.first b with
 |error e=>rw[hf] at h;exact absurd h (by simp)
 |ok p =>
  obtain ⟨t,i,n⟩:=p
  rw[hf] at h
  have h:(if i+n<b.length then (Except.error 4:Except Nat Nat) else whole 16 false b)=.ok m:=h
  by_cases h2:i+n<b.length
  ·rw[if_pos h2] at h;exact absurd h (by simp)
  rw[if_neg h2] at h
  exact ⟨h8,_,_,_,_,_,m,Nat.le_refl _,h⟩
def Sane (s:Rd):Prop:=s.e=0→∃ k,k+s.left.length≤16∧Seen k s.top∧∀ i x,s.left[i]?=some x→Seen (k+i+1) x
theorem sane_start {b:List Nat} (h8:∀ x∈b,x<256):Sane (start b):=by
 intro h
 unfold start at h ⊢
 cases hl:Tl.levels b with
 |error e =>
  rw[hl] at h
  have hz:e≠0:=by
   unfold Tl.levels at hl
   by_cases h1:65536<b.length
   ·rw[if_pos h1] at hl;have:=Except.error.inj hl;omega
   rw[if_neg h1] at hl
   cases hf:Tl.first b with
   |error e2=>rw[hf] at hl;obtain rfl:=Except.error.inj hl;exact first_err hf
   |ok p =>
    obtain ⟨t,i,n⟩:=p
    rw[hf] at hl
    have hl:(if i+n<b.length then (Except.error 4:Except Nat Nat) else Tl.within 16 t ((b.drop i).take n))=.error e:=hl
    by_cases h2:i+n<b.length
    ·rw[if_pos h2] at hl;have:=Except.error.inj hl;omega
    ·rw[if_neg h2] at hl;exact within_err _ _ _ _ hl
  exact absurd h hz
 |ok m=>exact ⟨16,by simp,seen_levels h8 hl,by simp⟩
theorem sane_took {s:Rd} (hs:Sane s) {t i n:Nat} (hb:s.top≠[]) (hq:Tl.first s.top=.ok (t,i,n)):Sane { s with top:=s.top.drop (i+n) }:=by
 intro he
 obtain ⟨k,h1,h2,h3⟩:=hs he
 obtain ⟨t2,i2,n2,hq2,_,_,_,_,hr,_⟩:=seen_first h2 hb
 rw[hq] at hq2
 obtain ⟨rfl,h4⟩:=Prod.mk.inj (Except.ok.inj hq2)
 obtain ⟨rfl,rfl⟩:=Prod.mk.inj h4
 exact ⟨k,h1,hr,h3⟩
theorem sane_into {s:Rd} (hs:Sane s) {t i n:Nat} (hb:s.top≠[]) (hq:Tl.first s.top=.ok (t,i,n)) (hm:Tl.made (t:Nat)=true):Sane { s with top:=(s.top.drop i).take n,left:=s.top.drop (i+n) :: s.left }:=by
 intro he
 obtain ⟨k,h1,h2,h3⟩:=hs he
 obtain ⟨t2,i2,n2,hq2,_,_,_,_,hr,_,hmade⟩:=seen_first h2 hb
 rw[hq] at hq2
 obtain ⟨rfl,h4⟩:=Prod.mk.inj (Except.ok.inj hq2)
 obtain ⟨rfl,rfl⟩:=Prod.mk.inj h4
 obtain ⟨hk,hin⟩:=hmade hm
 refine ⟨k-1,by simp only[List.length_cons];omega,hin,fun j x hj=>?_⟩
 cases j with
 |zero =>
  simp only[List.getElem?_cons_zero,Option.some.injEq] at hj
  subst hj
  rw[show k-1+0+1=k by omega];exact hr
 |succ j =>
  rw[List.getElem?_cons_succ] at hj
  rw[show k-1+(j+1)+1=k+j+1 by omega];exact h3 j x hj
theorem sane_out {s:Rd} (hs:Sane s) {b:List Nat} {r:List (List Nat)} (hl:s.left=b :: r):Sane { s with top:=b,left:=r }:=by
 intro he
 obtain ⟨k,h1,h2,h3⟩:=hs he
 rw[hl] at h1 h3
 simp only[List.length_cons] at h1
 refine ⟨k+1,by simp only;omega,h3 0 b rfl,fun j x hj=>?_⟩
 rw[show k+1+j+1=k+(j+1)+1 by omega]
 exact h3 (j+1) x (by rw[List.getElem?_cons_succ];exact hj)
theorem sane_first {s:Rd} (hs:Sane s) (he:s.e=0) (hb:s.top≠[]):∃ t i n,Tl.first s.top=.ok (t,i,n)∧elems s.top=(t,(s.top.drop i).take n) :: elems (s.top.drop (i+n))∧Tl.known (t:Nat)=true∧n≤65530∧s.top.take (i+n)=Tl.elem t ((s.top.drop i).take n) ∧
  (∀ x∈(s.top.drop i).take n,x<256)∧((s.top.drop i).take n).length=n∧(Tl.made (t:Nat)=true→all ((s.top.drop i).take n).length ((s.top.drop i).take n)=.ok (elems ((s.top.drop i).take n))):=by
 obtain ⟨k,h1,h2,h3⟩:=hs he
 obtain ⟨t,i,n,hq,hi,hin,hk,hn,hr,het,hmade⟩:=seen_first h2 hb
 refine ⟨t,i,n,hq,elems_cons h2 hb hq,hk,hn,het,fun x hx=>h2.1 x (List.mem_of_mem_drop (List.mem_of_mem_take hx)),?_,fun hm=>elems_all (hmade hm).2⟩
 rw[List.length_take,List.length_drop];omega
theorem sane_none {s:Rd} (hs:Sane s) (he:s.e=0):elems s.top=[]↔s.top=[]:=by
 obtain ⟨k,_,h2,_⟩:=hs he
 exact elems_none h2
end De
namespace De
theorem rdLen_err28 {l:List Nat} {k:Nat} (h:Tl.rdLen l=.error k):k≤28:=by
 unfold Tl.rdLen at h
 repeat' split at h
 all_goals first
  |(rw[←Except.error.inj h];decide)
  |cases h
theorem first_err28 {l:List Nat} {k:Nat} (h:Tl.first l=.error k):k≤28:=by
 match l,h with
 |[],h=>rw[←Except.error.inj h];decide
 |t :: r,h =>
  rw[Tl.first] at h
  split at h
  ·rw[←Except.error.inj h];decide
  ·split at h
   ·rename_i e he
    rw[←Except.error.inj h]
    exact rdLen_err28 he
   ·split at h
    ·rw[←Except.error.inj h];decide
    ·exact absurd h (by simp)
theorem loop_err28 {rec:Nat→List Nat→Except Nat Nat} {one set:Bool} (hr:∀ t b k,rec t b=.error k→k≤28):∀ (f:Nat) (b a:List Nat) (d k:Nat),Tl.loop rec one set f b a d=.error k→k≤28
 |0,_,_,_,_,h=>by rw[Tl.loop] at h;exact absurd h (by simp)
 |f+1,b,a,d,k,h=>by
  rw[Tl.loop] at h
  split at h
  ·exact absurd h (by simp)
  ·split at h
   ·rename_i e he
    rw[←Except.error.inj h]
    exact first_err28 he
   ·split at h
    ·rw[←Except.error.inj h];decide
    ·split at h
     ·rename_i e he
      rw[←Except.error.inj h]
      exact hr _ _ _ he
     ·split at h
      ·rw[←Except.error.inj h];decide
      ·exact loop_err28 hr f _ _ _ _ h
theorem within_err28:∀ (L t:Nat) (b:List Nat) (k:Nat),Tl.within L t b=.error k→k≤28
 |0,t,b,k,h=>by rw[←Except.error.inj h];decide
 |L+1,t,b,k,h=>by
  rw[Tl.within] at h
  split at h
  ·split at h
   ·rename_i e he
    rw[←Except.error.inj h]
    exact loop_err28 (within_err28 L) _ _ _ _ _ he
   ·exact absurd h (by simp)
  ·exact absurd h (by simp)
theorem levels_err28 {l:List Nat} {k:Nat} (h:Tl.levels l=.error k):k≤28:=by
 unfold Tl.levels at h
 split at h
 ·rw[←Except.error.inj h];decide
 ·split at h
  ·rename_i e he
   rw[←Except.error.inj h]
   exact first_err28 he
  ·split at h
   ·rw[←Except.error.inj h];decide
   ·exact within_err28 _ _ _ _ h
theorem asked_le (l:List Nat) (m:Int):Pt.asked l m≤28:=by
 unfold Pt.asked
 repeat' split
 all_goals decide
end De
end Go.Proofs.YtjjbkpjjmbfdhaaGreatDoor
