import Derived.Test.YtjjbkpjjmbfdhaaGreatDoorZb00
import Derived.Test.YtjjbkpjjmbfdhaaGreatDoorZb03
import Derived.Test.YtjjbkpjjmbfdhaaGreatDoorZb11
import Derived.Test.YtjjbkpjjmbfdhaaGreatDoorZb17
import Derived.Test.YtjjbkpjjmbfdhaaGreatDoorZb18
import Derived.Test.YtjjbkpjjmbfdhaaGreatDoorZb19
import Derived.Test.YtjjbkpjjmbfdhaaGreatDoorZb26
import Derived.Test.YtjjbkpjjmbfdhaaGreatDoorZb28
import Derived.Test.YtjjbkpjjmbfdhaaGreatDoorZb31
import Derived.Test.YtjjbkpjjmbfdhaaGreatDoorZb33
import Derived.Test.YtjjbkpjjmbfdhaaGreatDoorZb39
import Derived.Test.YtjjbkpjjmbfdhaaGreatDoorZb40
import Derived.Shelf.Strings.OnBuilder
import Derived.Shelf.Strings.Search3
import Derived.Shelf.Slices.Equal
import Derived.Test.YtjjbkpjjmbfdhaaGreatDoorProg
set_option linter.unusedVariables false
set_option linter.unusedSimpArgs false
set_option maxRecDepth 100000
set_option maxHeartbeats 1000000
namespace Go.Proofs.YtjjbkpjjmbfdhaaGreatDoor
open Lib (hid)
open Go.RowKit
section
variable {A:Nat→Addr} {W0 w w2:World} {F:Nat→Prop} {b:Nat} {s:De.Rd}
theorem prROut_weak {w':World} {Z:Value} {tag:Int} {r r2:List Nat→Except Nat (World→Value→Prop)} {e:Ending} (hr:∀ l,match r l with
  |.error k=>r2 l=.error k
  |.ok V=>∃ V2,r2 l=.ok V2∧∀ W v,V W v→V2 W v) (h:PrROut A W0 F b w w' Z (readP s tag r) e):PrROut A W0 F b w w' Z (readP s tag r2) e:=by
 obtain ⟨h1,h2,h3⟩:=h
 unfold readP at h2 h3 ⊢
 cases hn:nextP s tag with
 |mk s2 o =>
  rw[hn] at h2 h3
  cases o with
  |none=>exact ⟨h1,h2,h3⟩
  |some l =>
   have hl:=hr l
   simp only at h2 h3 ⊢
   cases hq:r l with
   |error k =>
    rw[hq] at h2 h3 hl
    have hl:r2 l=.error k:=hl
    rw[hl]
    exact ⟨h1,h2,h3⟩
   |ok V =>
    rw[hq] at h2 h3 hl
    obtain ⟨V2,e2,hv⟩:∃ V2,r2 l=.ok V2∧∀ W v,V W v→V2 W v:=hl
    rw[e2]
    obtain ⟨v,h4,h5⟩:∃ v,e=.returned v∧V w' v:=h3
    exact ⟨h1,h2,v,h4,hv _ _ h5⟩
end
theorem oct_weak {w W1:World} {least most:Int} (hs:w.heap.size≤W1.heap.size):∀ l,match octR W1 least most l with
  |.error k=>octR w least most l=.error k
  |.ok V=>∃ V2,octR w least most l=.ok V2∧∀ W v,V W v→V2 W v:=fun l=>by
 by_cases h1:(l.length:Int)<least
 ·have e:∀ u:World,octR u least most l=.error 2:=fun u=>by unfold octR;rw[if_pos h1]
  rw[e,e]
 ·by_cases h2:most<(l.length:Int)
  ·have e:∀ u:World,octR u least most l=.error 3:=fun u=>by unfold octR;rw[if_neg h1,if_pos h2]
   rw[e,e]
  ·have e:∀ u:World,octR u least most l=.ok (fun W v=>Sup (fun k=>u.heap.size≤k∧k<W.heap.size) W (fun X=>Bytes X v l∧Whole0 v)):=fun u=>by unfold octR;rw[if_neg h1,if_neg h2]
   rw[e,e]
   refine ⟨_,rfl,fun W v hv=>?_⟩
   have hv:Sup (fun k=>W1.heap.size≤k∧k<W.heap.size) W (fun X=>Bytes X v l∧Whole0 v):=hv
   exact hv.mono (fun k hk=>⟨Nat.le_trans hs hk.1,hk.2⟩) (fun k hk=>hk.2)
theorem rrOctets_any {A:Nat→Addr} {W0 w:World} {F:Nat→Prop} {b:Nat} {s:De.Rd} (h:PrR A W0 F b s w) (hE:AllErrs W0 A) (least most:Int) :
  Calls Tryz.prog 42 #[.pointer (some ⟨b,0,none⟩),.int .i64 least,.int .i64 most] w fun e w'=>∃ v,e=.returned v∧PrROut A W0 F b w w' (.slice none 0 0) (readP s 4 (octR w least most)) e:=by
 obtain ⟨W1,hW1⟩:∃ W1,W1=(w.alloc (.cells #[.int .i64 least] 3)).alloc (.cells #[.int .i64 most] 3):=⟨_,rfl⟩
 have hga:w.grownBy W1 none:=by rw[hW1];exact grown_alloc (grown_alloc (grown_refl _ _) _) _
 have cx1:W1.cell? ⟨w.heap.size,0,none⟩=some (.int .i64 least):=by rw[hW1];exact cell_blk (alloc_keep (alloc_at _ _)) 0 rfl
 have cx2:W1.cell? ⟨w.heap.size+1,0,none⟩=some (.int .i64 most):=by
  rw[hW1]
  have:=alloc_at (w.alloc (.cells #[.int .i64 least] 3)) (.cells #[.int .i64 most] 3)
  rw[alloc_size] at this
  exact cell_blk this 0 rfl
 have hmf:=mkFn
 have hbs:b<W1.heap.size:=Nat.lt_of_lt_of_le (h.own b h.mem).2 hga.size
 have HR:=hid ((prRead_bytes (h.grow hga) hE 4 92 #[.pointer (some ⟨w.heap.size,0,none⟩),.pointer (some ⟨w.heap.size+1,0,none⟩)] (octR W1 least most)
  (fun l k hk=>by
   unfold octR at hk
   split at hk
   ·have:=Except.error.inj hk;omega
   ·split at hk
    ·have:=Except.error.inj hk;omega
    ·exact absurd hk (by simp))
  (fun l V hV w2 v x hg hv=>by
   unfold octR at hV
   split at hV
   ·exact absurd hV (by simp)
   ·split at hV
    ·exact absurd hV (by simp)
    ·obtain rfl:=Except.ok.inj hV
     have hsz:(w2.setCell ⟨b,0,none⟩ x).heap.size=w2.heap.size:=setCell_size _ _ _
     have hv:Sup (fun k=>W1.heap.size≤k∧k<w2.heap.size) w2 (fun X=>Bytes X v l∧Whole0 v):=hv
     show Sup (fun k=>W1.heap.size≤k∧k<(w2.setCell ⟨b,0,none⟩ x).heap.size) (w2.setCell ⟨b,0,none⟩ x) _
     rw[hsz]
     exact hv.kept ⟨by rw[hsz];exact Nat.le_refl _,fun k hk=>Below.heap_setCell _ _ _ _ (fun e=>by have:k=b:=e;omega)⟩)
  (enters_any Tryz.func92 rfl rfl)
  (fun l a c h8 hl _ hB h0=>octClo_any A l a c _ _ least most W1 cx1 cx2 h8 hl hB h0 (hE.grown (grown_join h.base hga)))).mono (fun e w' hp=>prROut_weak (r2:=octR w least most) (oct_weak hga.size) (h.afterO hga hp)))
 have HW1:Hid ((w.alloc (.cells #[.int .i64 least] 3)).alloc (.cells #[.int .i64 most] 3)=W1):=hid hW1.symm
 generalize readP s 4 (octR w least most)=p at *
 clear h hE hW1 hga cx1 cx2 hbs
 go_enter Tryz.func42,Tryz.ntmps42
 go_wp2_with (go_at_call 91;rw[HW1.out];refine HR.out.mono ?_;rintro e w3 hp3;obtain ⟨v,hv,hq⟩:=prROut_val hp3;subst hv;have HQ:=hid hq;clear hp3 hq)
 go_ret
 exact ⟨_,rfl,HQ.out⟩
def textR (most:Int) (l:List Nat):Except Nat (World→Value→Prop):=if Pt.asked l most=0 then .ok (fun _ v=>v=.string (strOf l)) else .error (Pt.asked l most)
theorem textClo_any (A:Nat→Addr) (l:List Nat) (a:Option Addr) (c x1:Nat) (most:Int) (W0 w:World) (hb:W0.grownBy w none) (h1:w.cell? ⟨x1,0,none⟩=some (.int .i64 most)) (h8:∀ x∈l,x<256) (hl:l.length≤1000) (hm:inT most) (hB:Bytes w (.slice a l.length c) l) (hS:TxGet A W0) :
  Calls Tryz.prog 82 #[.slice a l.length c,.pointer (some ⟨x1,0,none⟩)] w fun e w'=>GetPost A w w' (textR most l) e:=by
 have HT:=hid (hS (.slice a l.length c) (strOf l) most w (by rw[strOf_size];exact hl) hm hb (by rw[strL_strOf h8];exact hB))
 rw[strL_strOf h8] at HT
 unfold textR
 generalize l.length=n at *
 by_cases hk:Pt.asked l most=0
 ·rw[if_pos hk]
  rw[if_pos hk] at HT
  clear hB h8 hl hm hk hb hS
  go_enter Tryz.func82,Tryz.ntmps82
  go_wp2_with (go_at_call 83;refine HT.out.mono ?_;rintro e w2 ⟨hg2,rfl⟩;have HG2:=hid hg2;clear hg2)
  go_returns
  exact ⟨HG2.out,_,rfl,rfl⟩
 ·rw[if_neg hk]
  rw[if_neg hk] at HT
  clear hB h8 hl hm hk hb hS
  go_enter Tryz.func82,Tryz.ntmps82
  go_wp2_with (go_at_call 83;refine HT.out.mono ?_;rintro e w2 ⟨hg2,rfl⟩;have HG2:=hid hg2;clear hg2)
  go_returns
  exact ⟨HG2.out,_,rfl⟩
theorem rrText_any {A:Nat→Addr} {W0 w:World} {F:Nat→Prop} {b:Nat} {s:De.Rd} (h:PrR A W0 F b s w) (hE:AllErrs W0 A) (hS:TxGet A W0) (hnx:∀ l,Top1 s l→l.length≤1000) (most:Int) (hm:inT most) :
  Calls Tryz.prog 37 #[.pointer (some ⟨b,0,none⟩),.int .i64 most] w fun e w'=>∃ v,e=.returned v∧PrROut A W0 F b w w' (.string ⟨#[]⟩) (readP s 12 (textR most)) e:=by
 obtain ⟨W1,hW1⟩:∃ W1,W1=w.alloc (.cells #[.int .i64 most] 3):=⟨_,rfl⟩
 have hga:w.grownBy W1 none:=by rw[hW1];exact grown_alloc (grown_refl _ _) _
 have cx1:W1.cell? ⟨w.heap.size,0,none⟩=some (.int .i64 most):=by rw[hW1];exact cell_blk (alloc_at _ _) 0 rfl
 have hmf:=mkFn
 have HR:=hid ((prRead_text (h.grow hga) hE 12 82 #[.pointer (some ⟨w.heap.size,0,none⟩)] (textR most)
  (fun l k hk=>by
   unfold textR at hk
   split at hk
   ·exact absurd hk (by simp)
   ·rename_i hne
    obtain rfl:=Except.error.inj hk;exact hne)
  (fun l V hV w2 v x hg hv=>by
   unfold textR at hV
   split at hV
   ·obtain rfl:=Except.ok.inj hV;exact hv
   ·exact absurd hV (by simp))
  (enters_any Tryz.func82 rfl rfl)
  (fun l a c h8 _ hlt hB h0=>textClo_any A l a c _ most W0 W1 (grown_join h.base hga) cx1 h8 (hnx l hlt.2) hm hB hS)).mono (fun e w' hp=>h.afterO hga hp))
 have HW1:Hid (w.alloc (.cells #[.int .i64 most] 3)=W1):=hid hW1.symm
 generalize readP s 12 (textR most)=p at *
 clear h hE hS hW1 hga cx1 hm hnx
 go_enter Tryz.func37,Tryz.ntmps37
 go_wp2_with (go_at_call 81;rw[HW1.out];refine HR.out.mono ?_;rintro e w3 hp3;obtain ⟨v,hv,hq⟩:=prROut_val hp3;subst hv;have HQ:=hid hq;clear hp3 hq)
 go_ret
 exact ⟨_,rfl,HQ.out⟩
def AnsV (w:World) (k:Int) (x:De.Val) (W:World) (v:Value):Prop :=
 if k=5 then v=.bool x.is else if k=6 then (∃ a c,v=.slice a x.b.length c)∧Sup (fun j=>w.heap.size≤j∧j<W.heap.size) W (fun X=>Bytes X v x.b∧Whole0 v) else if k=7∨k=8 then v=.string (strOf x.t) else v=.int .i64 x.n
def only (k:Int) (x:De.Val):Prop:=x=if k=5 then { De.none0 with is:=x.is } else if k=6 then { De.none0 with b:=x.b } else if k=7∨k=8 then { De.none0 with t:=x.t } else { De.none0 with n:=x.n }
theorem only_none (k:Int):only k De.none0:=by
 unfold only
 by_cases h5:k=5
 ·rw[if_pos h5]
 ·rw[if_neg h5]
  by_cases h6:k=6
  ·rw[if_pos h6]
  ·rw[if_neg h6]
   by_cases h7:k=7∨k=8
   ·rw[if_pos h7]
   ·rw[if_neg h7]
theorem said_only {k least most:Int} {l:List Nat} {x:De.Val} (h:De.said k least most l=.ok x):only k x:=by
 unfold De.said at h
 unfold only
 by_cases h34:k=3∨k=4
 ·rw[if_pos h34] at h
  rw[if_neg (by omega),if_neg (by omega),if_neg (by omega)]
  cases hg:Wh.get l with
  |error e=>rw[hg] at h;exact absurd h (by simp)
  |ok n =>
   rw[hg] at h
   have h:(if n<least∨most<n then (Except.error 1:Except Nat De.Val) else .ok { De.none0 with n:=n })=.ok x:=h
   split at h
   ·exact absurd h (by simp)
   ·obtain rfl:=Except.ok.inj h;rfl
 rw[if_neg h34] at h
 by_cases h5:k=5
 ·rw[if_pos h5] at h ⊢
  split at h
  ·exact absurd h (by simp)
  ·split at h
   ·exact absurd h (by simp)
   ·obtain rfl:=Except.ok.inj h;rfl
 rw[if_neg h5] at h ⊢
 by_cases h6:k=6
 ·rw[if_pos h6] at h ⊢
  split at h
  ·exact absurd h (by simp)
  ·split at h
   ·exact absurd h (by simp)
   ·obtain rfl:=Except.ok.inj h;rfl
 rw[if_neg h6] at h ⊢
 by_cases h7:k=7
 ·rw[if_pos h7] at h
  rw[if_pos (.inl h7)]
  split at h
  ·obtain rfl:=Except.ok.inj h;rfl
  ·exact absurd h (by simp)
 rw[if_neg h7] at h
 by_cases h8:k=8
 ·rw[if_pos h8] at h
  rw[if_pos (.inr h8)]
  cases hg:Od.get l with
  |error e=>rw[hg] at h;exact absurd h (by simp)
  |ok n=>rw[hg] at h;obtain rfl:=Except.ok.inj h;rfl
 rw[if_neg h8] at h
 rw[if_neg (by omega)]
 by_cases h9:k=9
 ·rw[if_pos h9] at h
  cases hg:Cal.get l with
  |error e=>rw[hg] at h;exact absurd h (by simp)
  |ok n=>rw[hg] at h;obtain rfl:=Except.ok.inj h;rfl
 rw[if_neg h9] at h
 cases hg:Pt.mask l with
 |error e=>rw[hg] at h;exact absurd h (by simp)
 |ok n=>rw[hg] at h;obtain rfl:=Except.ok.inj h;rfl
def Tells (w:World) (k least most:Int) (r:List Nat→Except Nat (World→Value→Prop)):Prop:=∀ l,match De.said k least most l with
 |.error e=>r l=.error e
 |.ok x=>∃ V,r l=.ok V∧∀ W v,V W v→AnsV w k x W v
theorem tells_num (w:World) (k least most:Int) (hk:k=3∨k=4):Tells w k least most (numR least most):=fun l=>by
 rw[said_num k least most hk]
 unfold numR rangeOf
 cases hg:Wh.get l with
 |error e =>
  have he:=(show e≠0 from by
   intro h0;subst h0
   revert hg;unfold Wh.get
   repeat' split
   all_goals simp)
  show (if e=0 then _ else _)=_
  rw[if_neg he]
 |ok n =>
  simp only
  by_cases hb:n<least∨most<n
  ·rw[if_pos hb,if_pos hb];rfl
  ·rw[if_neg hb,if_neg hb]
   refine ⟨_,if_pos rfl,fun W v hv=>?_⟩
   unfold AnsV
   rw[if_neg (by omega),if_neg (by omega),if_neg (by omega)]
   exact hv
theorem tells_oct (w:World) (least most:Int):Tells w 6 least most (octR w least most):=fun l=>by
 unfold De.said octR
 rw[if_neg (by decide),if_neg (by decide),if_pos rfl]
 by_cases h1:(l.length:Int)<least
 ·rw[if_pos h1,if_pos h1]
 ·rw[if_neg h1,if_neg h1]
  by_cases h2:most<(l.length:Int)
  ·rw[if_pos h2,if_pos h2]
  ·rw[if_neg h2,if_neg h2]
   refine ⟨_,rfl,fun W v hv=>?_⟩
   unfold AnsV
   rw[if_neg (by decide),if_pos rfl]
   have hv:Sup (fun k=>w.heap.size≤k∧k<W.heap.size) W (fun X=>Bytes X v l∧Whole0 v):=hv
   obtain ⟨_,a,_,_,c,e,_⟩:=hv.now.1
   exact ⟨⟨a,c,e⟩,hv⟩
theorem tells_text (w:World) (least most:Int):Tells w 7 least most (textR most):=fun l=>by
 unfold De.said textR
 rw[if_neg (by decide),if_neg (by decide),if_neg (by decide),if_pos rfl]
 by_cases h1:Pt.asked l most=0
 ·rw[if_pos h1,if_pos h1]
  refine ⟨_,rfl,fun W v hv=>?_⟩
  unfold AnsV
  rw[if_neg (by decide),if_neg (by decide),if_pos (by decide)]
  exact hv
 ·rw[if_neg h1,if_neg h1]
theorem tells_moment (w:World) (least most:Int):Tells w 9 least most momentR:=fun l=>by
 unfold De.said momentR
 rw[if_neg (by decide),if_neg (by decide),if_neg (by decide),if_neg (by decide),if_neg (by decide),if_pos rfl]
 cases hg:Cal.get l with
 |error e=>rfl
 |ok n =>
  refine ⟨_,rfl,fun W v hv=>?_⟩
  unfold AnsV
  rw[if_neg (by decide),if_neg (by decide),if_neg (by decide)]
  exact hv
section
variable {A:Nat→Addr} {W0 w w2:World} {F:Nat→Prop} {b:Nat} {s:De.Rd}
theorem PrR.sane (h:PrR A W0 F b s w):De.Sane s:=by
 by_cases he:s.e=0
 ·obtain ⟨_,_,_,_,_,h2⟩:=h.at0 he
  exact h2.sane
 ·exact fun h0=>absurd h0 he
structure AskPost (A:Nat→Addr) (W0:World) (F:Nat→Prop) (b:Nat) (s:De.Rd) (k tag least most:Int) (w w':World) (v:Value):Prop where
 upto:Upto F w w'
 rd:PrR A W0 (Ext F w w') b (De.ask s k tag least most).1 w'
 ans:AnsV w k (De.ask s k tag least most).2 w' v
 one:only k (De.ask s k tag least most).2
theorem ask_out {w':World} {Z v:Value} {k tag least most:Int} {r:List Nat→Except Nat (World→Value→Prop)} (h:PrR A W0 F b s w) (h1:k≠1) (h2:k≠2) (h11:k≠11) (ht:Tells w k least most r) (hp:PrROut A W0 F b w w' Z (readP s (De.tagOf k) r) (.returned v)) (hZ:AnsV w k De.none0 w' Z) :
  AskPost A W0 F b s k tag least most w w' v:=by
 obtain ⟨q1,q2,q3⟩:=hp
 obtain ⟨p1,p2,p3⟩:=ask_read (s:=s) h.sane k tag least most h1 h2 h11 r (fun l=>by
  have:=ht l
  revert this
  cases De.said k least most l with
  |error e=>exact fun h=>h
  |ok x=>exact fun ⟨V,hV,_⟩=>⟨V,hV⟩)
 have hst:PrR A W0 (Ext F w w') b (De.ask s k tag least most).1 w':=by
  by_cases he:(readP s (De.tagOf k) r).1.e=0
  ·rw[←p2 he];exact q2
  ·exact q2.err_any he p1.symm
 revert q3 p3
 cases (readP s (De.tagOf k) r).2 with
 |none =>
  intro q3 p3
  have q3:Ending.returned v=.returned Z:=q3
  have p3:(De.ask s k tag least most).2=De.none0:=p3
  refine ⟨q1,hst,?_,?_⟩
  ·rw[p3];obtain rfl:=Ending.returned.inj q3;exact hZ
  ·rw[p3];exact only_none k
 |some V =>
  intro q3 p3
  obtain ⟨v',e,hv⟩:∃ v',Ending.returned v=.returned v'∧V w' v':=q3
  obtain rfl:=Ending.returned.inj e
  obtain ⟨l,hl,hs⟩:∃ l,r l=.ok V∧De.said k least most l=.ok (De.ask s k tag least most).2:=p3
  have:=ht l
  rw[hs] at this
  obtain ⟨V2,e2,h3⟩:∃ V,r l=.ok V∧∀ W v,V W v→AnsV w k (De.ask s k tag least most).2 W v:=this
  rw[hl] at e2
  obtain rfl:=Except.ok.inj e2
  exact ⟨q1,hst,h3 _ _ hv,said_only hs⟩
theorem ans_none (w:World) (k:Int) (W:World) (hw:w.heap.size≤W.heap.size):AnsV w k De.none0 W (if k=5 then .bool false else if k=6 then .slice none 0 0 else if k=7∨k=8 then .string ⟨#[]⟩ else .int .i64 0):=by
 unfold AnsV
 by_cases h5:k=5
 ·rw[if_pos h5,if_pos h5];rfl
 rw[if_neg h5,if_neg h5]
 by_cases h6:k=6
 ·rw[if_pos h6,if_pos h6]
  exact ⟨⟨none,0,rfl⟩,fun j hj=>hj.2,fun W' _=>⟨⟨by simp[De.none0],none,0,0,0,rfl,Nat.le_refl _,fun h=>absurd h (by simp[De.none0]),fun j hj=>absurd hj (by simp[De.none0])⟩,fun n c e=>by cases e;exact ⟨rfl,rfl⟩⟩⟩
 rw[if_neg h6,if_neg h6]
 by_cases h7:k=7∨k=8
 ·rw[if_pos h7,if_pos h7];rfl
 ·rw[if_neg h7,if_neg h7];rfl
end
structure ReadsOf (A:Nat→Addr) (w:World):Prop where
 errs:AllErrs w A
 moment:MoGet A w
 text:TxGet A w
section
variable {A:Nat→Addr} {W0 w:World} {F:Nat→Prop} {b:Nat} {s:De.Rd}
theorem raInt (h:PrR A W0 F b s w) (hA:ReadsOf A W0) (tag least most:Int) :
  Calls Tryz.prog 36 #[.pointer (some ⟨b,0,none⟩),.int .i64 least,.int .i64 most] w fun e w'=>∃ v,e=.returned v∧AskPost A W0 F b s 3 tag least most w w' v :=
 (rrInt_any h hA.errs least most).mono (fun e w' ⟨v,he,hp⟩=>by
  subst he
  exact ⟨v,rfl,ask_out h (by decide) (by decide) (by decide) (tells_num w 3 least most (.inl rfl)) hp (ans_none w 3 w' hp.1.size)⟩)
theorem raOctets (h:PrR A W0 F b s w) (hA:ReadsOf A W0) (tag least most:Int) :
  Calls Tryz.prog 42 #[.pointer (some ⟨b,0,none⟩),.int .i64 least,.int .i64 most] w fun e w'=>∃ v,e=.returned v∧AskPost A W0 F b s 6 tag least most w w' v :=
 (rrOctets_any h hA.errs least most).mono (fun e w' ⟨v,he,hp⟩=>by
  subst he
  exact ⟨v,rfl,ask_out h (by decide) (by decide) (by decide) (tells_oct w least most) hp (ans_none w 6 w' hp.1.size)⟩)
theorem raText (h:PrR A W0 F b s w) (hA:ReadsOf A W0) (hnx:∀ l,Top1 s l→l.length≤1000) (tag least most:Int) (hm:inT most) :
  Calls Tryz.prog 37 #[.pointer (some ⟨b,0,none⟩),.int .i64 most] w fun e w'=>∃ v,e=.returned v∧AskPost A W0 F b s 7 tag least most w w' v :=
 (rrText_any h hA.errs hA.text hnx most hm).mono (fun e w' ⟨v,he,hp⟩=>by
  subst he
  exact ⟨v,rfl,ask_out h (by decide) (by decide) (by decide) (tells_text w least most) hp (ans_none w 7 w' hp.1.size)⟩)
theorem raMoment (h:PrR A W0 F b s w) (hA:ReadsOf A W0) (hnx:∀ l,Top1 s l→l.length≤1000) (tag least most:Int) :
  Calls Tryz.prog 43 #[.pointer (some ⟨b,0,none⟩)] w fun e w'=>∃ v,e=.returned v∧AskPost A W0 F b s 9 tag least most w w' v :=
 (rrMoment_any h hA.errs hA.moment hnx).mono (fun e w' ⟨v,he,hp⟩=>by
  subst he
  exact ⟨v,rfl,ask_out h (by decide) (by decide) (by decide) (tells_moment w least most) hp (ans_none w 9 w' hp.1.size)⟩)
end
section
variable {A:Nat→Addr} {W0 w:World} {F:Nat→Prop} {b:Nat} {s:De.Rd}
theorem rdInt (h:PrR A W0 F b s w) (hA:ReadsOf A W0) (tag least most:Int) :
  Calls Tryz.prog 36 #[.pointer (some ⟨b,0,none⟩),.int .i64 least,.int .i64 most] w fun e w'=>e=.returned (.int .i64 (De.ask s 3 tag least most).2.n)∧Upto F w w'∧PrR A W0 (Ext F w w') b (De.ask s 3 tag least most).1 w' :=
 (raInt h hA tag least most).mono (fun e w' ⟨v,he,hp⟩=>by
  have ha:=hp.ans
  unfold AnsV at ha
  rw[if_neg (by decide),if_neg (by decide),if_neg (by decide)] at ha
  exact ⟨by rw[he,ha],hp.upto,hp.rd⟩)
theorem rdMoment (h:PrR A W0 F b s w) (hA:ReadsOf A W0) (hnx:∀ l,Top1 s l→l.length≤1000) (tag least most:Int) :
  Calls Tryz.prog 43 #[.pointer (some ⟨b,0,none⟩)] w fun e w'=>e=.returned (.int .i64 (De.ask s 9 tag least most).2.n)∧Upto F w w'∧PrR A W0 (Ext F w w') b (De.ask s 9 tag least most).1 w' :=
 (raMoment h hA hnx tag least most).mono (fun e w' ⟨v,he,hp⟩=>by
  have ha:=hp.ans
  unfold AnsV at ha
  rw[if_neg (by decide),if_neg (by decide),if_neg (by decide)] at ha
  exact ⟨by rw[he,ha],hp.upto,hp.rd⟩)
theorem rdText (h:PrR A W0 F b s w) (hA:ReadsOf A W0) (hnx:∀ l,Top1 s l→l.length≤1000) (tag least most:Int) (hm:inT most) :
  Calls Tryz.prog 37 #[.pointer (some ⟨b,0,none⟩),.int .i64 most] w fun e w'=>e=.returned (.string (strOf (De.ask s 7 tag least most).2.t))∧Upto F w w'∧PrR A W0 (Ext F w w') b (De.ask s 7 tag least most).1 w' :=
 (raText h hA hnx tag least most hm).mono (fun e w' ⟨v,he,hp⟩=>by
  have ha:=hp.ans
  unfold AnsV at ha
  rw[if_neg (by decide),if_neg (by decide),if_pos (.inl rfl)] at ha
  exact ⟨by rw[he,ha],hp.upto,hp.rd⟩)
theorem rdOct (h:PrR A W0 F b s w) (hA:ReadsOf A W0) (tag least most:Int) :
  Calls Tryz.prog 42 #[.pointer (some ⟨b,0,none⟩),.int .i64 least,.int .i64 most] w fun e w'=>∃ v,e=.returned v∧(∃ a c,v=.slice a (De.ask s 6 tag least most).2.b.length c)∧Bytes w' v (De.ask s 6 tag least most).2.b∧Whole0 v∧Upto F w w'∧PrR A W0 (Ext F w w') b (De.ask s 6 tag least most).1 w' :=
 (raOctets h hA tag least most).mono (fun e w' ⟨v,he,hp⟩=>by
  have ha:=hp.ans
  unfold AnsV at ha
  rw[if_neg (by decide),if_pos rfl] at ha
  exact ⟨v,he,ha.1,ha.2.now.1,ha.2.now.2,hp.upto,hp.rd⟩)
end
structure RunB (A:Nat→Addr) (W0 w:World) (F F' B:Nat→Prop) (b:Nat) (s':De.Rd) (wr:World):Prop where
 upto:Upto (fun k=>F k∨B k) w wr
 rd:PrR A W0 F' b s' wr
 sub:∀ k,F' k→Ext F w wr k
section
variable {A:Nat→Addr} {W0 w w0 w2 wr:World} {F F' B:Nat→Prop} {b:Nat} {s s' s2:De.Rd} {e:Ending}
theorem RunB.start (h:PrR A W0 F b s w):RunB A W0 w F F B b s w:=⟨Upto.refl _ w,h,fun k hk=>.inl hk⟩
theorem RunB.still (h:RunB A W0 w F F' B b s' wr) (hg:wr.grownBy w2 none):RunB A W0 w F F' B b s' w2 :=
 ⟨h.upto.trans (Upto.of_grown (fun k=>F k∨B k) hg) (fun _ _ h=>h),h.rd.still hg,fun k hk=>by
  have:=hg.size
  rcases h.sub k hk with h1|h1
  ·exact .inl h1
  ·exact .inr ⟨h1.1,by omega⟩⟩
theorem RunB.call (hw:∀ k,F k→k<w.heap.size) (h:RunB A W0 w F F' B b s' wr) (hu:Upto F' wr w2) (hr:PrR A W0 (Ext F' wr w2) b s2 w2):RunB A W0 w F (Ext F' wr w2) B b s2 w2:=by
 have h1:=h.upto.size
 have h2:=hu.size
 refine ⟨h.upto.trans hu (fun k hk hf=>?_),hr,fun k hk=>?_⟩
 ·rcases h.sub k hf with hf|hf
  ·exact .inl hf
  ·omega
 ·rcases hk with hk|hk
  ·rcases h.sub k hk with h3|h3
   ·exact .inl h3
   ·exact .inr ⟨h3.1,by omega⟩
  ·exact .inr ⟨by omega,hk.2⟩
theorem RunB.off {k:Nat} (hB:∀ k,B k→k<w.heap.size∧¬ F k) (h:RunB A W0 w F F' B b s' wr) (hk:B k):¬ F' k:=fun h'=>by
 rcases h.sub k h' with h1|h1
 ·exact (hB k hk).2 h1
 ·have:=(hB k hk).1;omega
theorem RunB.box (hB:∀ k,B k→k<w.heap.size∧¬ F k) (hB0:∀ k,B k→W0.heap.size≤k) (h:RunB A W0 w F F' B b s' wr) (hu:Upto B wr w2):RunB A W0 w F F' B b s' w2 :=
 ⟨h.upto.trans hu (fun k hk hf=>.inr hf),h.rd.other (G:=B) (G':=B) hB0 ⟨hu,fun _ _ h=>h⟩ (fun k hk hf=>h.off hB hk hf),fun k hk=>by
  have:=hu.size
  rcases h.sub k hk with h1|h1
  ·exact .inl h1
  ·exact .inr ⟨h1.1,by omega⟩⟩
theorem RunB.set {g i:Nat} {v:Value} (hB:∀ k,B k→k<w.heap.size∧¬ F k) (hB0:∀ k,B k→W0.heap.size≤k) (h:RunB A W0 w F F' B b s' wr) (hg:B g):RunB A W0 w F F' B b s' (wr.setCell ⟨g,i,none⟩ v):=h.box hB hB0 (cell_upto hg)
theorem RunB.other {G:Nat→Prop} (hW:W0.heap.size≤w.heap.size) (h:RunB A W0 w F F' B b s' wr) (hu:Upto G wr w2) (hG:∀ k,G k→w.heap.size≤k∧¬ F' k):RunB A W0 w F F' B b s' w2 :=
 ⟨h.upto.trans hu (fun k hk hf=>by have:=(hG k hf).1;omega),h.rd.other (G:=G) (G':=G) (fun k hk=>by have:=(hG k hk).1;omega) ⟨hu,fun _ _ h=>h⟩ (fun k hk hf=>(hG k hk).2 hf),fun k hk=>by
  have:=hu.size
  rcases h.sub k hk with h1|h1
  ·exact .inl h1
  ·exact .inr ⟨h1.1,by omega⟩⟩
theorem RunB.row {F2:Nat→Prop} {t:TypeId} {sz n:Nat} {xs:List Value} {r:Value} (h:RunB A W0 w F F' B b s' wr) (hr:RowI A W0 wr F' F2 b s2 t sz n xs r w2):RunB A W0 w F F2 B b s2 w2:=by
 have h1:=h.upto.size
 have h2:=hr.upto.size
 refine ⟨h.upto.trans hr.upto (fun k hk hf=>?_),hr.rd,fun k hk=>?_⟩
 ·rcases h.sub k hf with hf|hf
  ·exact .inl hf
  ·omega
 ·rcases hr.sub k hk with h3|h3
  ·rcases h.sub k h3 with h4|h4
   ·exact .inl h4
   ·exact .inr ⟨h4.1,by omega⟩
  ·exact .inr ⟨by omega,h3.2⟩
theorem RunB.kept {k:Nat} {o:Obj} (hB:∀ k,B k→k<w.heap.size∧¬ F k) (h:RunB A W0 w F F' B b s' wr) (hu:Upto F' wr w2) (hk:B k) (ho:wr.heap[k]?=some o):w2.heap[k]?=some o :=
 (hu.block k (blk_lt ho) (h.off hB hk)).trans ho
theorem RunB.done (hF:∀ k,F k→W0.heap.size≤k∧k<w0.heap.size) (hb:W0.grownBy w0 none) (hg:w0.grownBy w none) (hB:∀ k,B k→w0.heap.size≤k) (hB2:∀ k,B k→k<w.heap.size) (h:RunB A W0 w F F' B b s' wr):Upto F w0 wr∧PrR A W0 (Ext F w0 wr) b s' wr:=by
 have h0:=hb.size
 have h1:=hg.size
 have h2:=h.upto.size
 refine ⟨(Upto.of_grown F hg).trans h.upto (fun k hk hf=>?_),h.rd.wide (fun k hk=>?_) (ext_own hb hF (by omega))⟩
 ·rcases hf with hf|hf
  ·exact hf
  ·have:=hB k hf;omega
 ·rcases h.sub k hk with h4|h4
  ·exact .inl h4
  ·exact .inr ⟨by omega,by omega⟩
end
end Go.Proofs.YtjjbkpjjmbfdhaaGreatDoor
