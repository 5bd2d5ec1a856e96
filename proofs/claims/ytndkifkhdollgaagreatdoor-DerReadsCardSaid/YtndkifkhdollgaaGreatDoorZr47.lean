import Derived.Test.YtndkifkhdollgaaGreatDoorZr22
import Derived.Test.YtndkifkhdollgaaGreatDoorZr29
import Derived.Test.YtndkifkhdollgaaGreatDoorZr36
import Derived.Test.YtndkifkhdollgaaGreatDoorZr39
import Derived.Test.YtndkifkhdollgaaGreatDoorZr40
import Derived.Test.YtndkifkhdollgaaGreatDoorZr46
set_option linter.unusedVariables false
set_option linter.unusedSimpArgs false
set_option maxRecDepth 100000
set_option maxHeartbeats 1000000
namespace Go.Proofs.YtndkifkhdollgaaGreatDoor
open Lib (hid)
open Go.RowKit
section
variable {A:Nat→Addr} {W0 w w2:World} {F:Nat→Prop} {b:Nat} {s:De.Rd}
theorem prROut_weak {w':World} {Z:Value} {tag:Int} {r r2:List Nat→Except Nat (World→Value→Prop)} {e:Ending} (hr:∀ l,match r l with
  |.error k=>r2 l=.error k
  |.ok V=>∃ V2,r2 l=.ok V2∧∀ W v,V W v→V2 W v) (h:PrROut A W0 F b w w' Z (readP s tag r) e):PrROut A W0 F b w w' Z (readP s tag r2) e:=by
 obtain ⟨h1,h2,h3⟩:=h
 unfold readP at h2 h3 ⊢
 cases hn:nextP s tag with
 |mk s2 o =>
  rw[hn] at h2 h3
  cases o with
  |none=>exact ⟨h1,h2,h3⟩
  |some l =>
   have hl:=hr l
   simp only at h2 h3 ⊢
   cases hq:r l with
   |error k =>
    rw[hq] at h2 h3 hl
    have hl:r2 l=.error k:=hl
    rw[hl]
    exact ⟨h1,h2,h3⟩
   |ok V =>
    rw[hq] at h2 h3 hl
    obtain ⟨V2,e2,hv⟩:∃ V2,r2 l=.ok V2∧∀ W v,V W v→V2 W v:=hl
    rw[e2]
    obtain ⟨v,h4,h5⟩:∃ v,e=.returned v∧V w' v:=h3
    exact ⟨h1,h2,v,h4,hv _ _ h5⟩
end
theorem oct_weak {w W1:World} {least most:Int} (hs:w.heap.size≤W1.heap.size):∀ l,match octR W1 least most l with
  |.error k=>octR w least most l=.error k
  |.ok V=>∃ V2,octR w least most l=.ok V2∧∀ W v,V W v→V2 W v:=fun l=>by
 by_cases h1:(l.length:Int)<least
 ·have e:∀ u:World,octR u least most l=.error 2:=fun u=>by unfold octR;rw[if_pos h1]
  rw[e,e]
 ·by_cases h2:most<(l.length:Int)
  ·have e:∀ u:World,octR u least most l=.error 3:=fun u=>by unfold octR;rw[if_neg h1,if_pos h2]
   rw[e,e]
  ·have e:∀ u:World,octR u least most l=.ok (fun W v=>Sup (fun k=>u.heap.size≤k∧k<W.heap.size) W (fun X=>Bytes X v l∧Whole0 v)):=fun u=>by unfold octR;rw[if_neg h1,if_neg h2]
   rw[e,e]
   refine ⟨_,rfl,fun W v hv=>?_⟩
   have hv:Sup (fun k=>W1.heap.size≤k∧k<W.heap.size) W (fun X=>Bytes X v l∧Whole0 v):=hv
   exact hv.mono (fun k hk=>⟨Nat.le_trans hs hk.1,hk.2⟩) (fun k hk=>hk.2)
theorem rrOctets_any {A:Nat→Addr} {W0 w:World} {F:Nat→Prop} {b:Nat} {s:De.Rd} (h:PrR A W0 F b s w) (hE:AllErrs W0 A) (least most:Int) :
  Calls Tryz.prog 63 #[.pointer (some ⟨b,0,none⟩),.int .i64 least,.int .i64 most] w fun e w'=>∃ v,e=.returned v∧PrROut A W0 F b w w' (.slice none 0 0) (readP s 4 (octR w least most)) e:=by
 obtain ⟨W1,hW1⟩:∃ W1,W1=(w.alloc (.cells #[.int .i64 least] 3)).alloc (.cells #[.int .i64 most] 3):=⟨_,rfl⟩
 have hga:w.grownBy W1 none:=by rw[hW1];exact grown_alloc (grown_alloc (grown_refl _ _) _) _
 have cx1:W1.cell? ⟨w.heap.size,0,none⟩=some (.int .i64 least):=by rw[hW1];exact cell_blk (alloc_keep (alloc_at _ _)) 0 rfl
 have cx2:W1.cell? ⟨w.heap.size+1,0,none⟩=some (.int .i64 most):=by
  rw[hW1]
  have:=alloc_at (w.alloc (.cells #[.int .i64 least] 3)) (.cells #[.int .i64 most] 3)
  rw[alloc_size] at this
  exact cell_blk this 0 rfl
 have hmf:=mkFn
 have hbs:b<W1.heap.size:=Nat.lt_of_lt_of_le (h.own b h.mem).2 hga.size
 have HR:=hid ((prRead_bytes (h.grow hga) hE 4 114 #[.pointer (some ⟨w.heap.size,0,none⟩),.pointer (some ⟨w.heap.size+1,0,none⟩)] (octR W1 least most)
  (fun l k hk=>by
   unfold octR at hk
   split at hk
   ·have:=Except.error.inj hk;omega
   ·split at hk
    ·have:=Except.error.inj hk;omega
    ·exact absurd hk (by simp))
  (fun l V hV w2 v x hg hv=>by
   unfold octR at hV
   split at hV
   ·exact absurd hV (by simp)
   ·split at hV
    ·exact absurd hV (by simp)
    ·obtain rfl:=Except.ok.inj hV
     have hsz:(w2.setCell ⟨b,0,none⟩ x).heap.size=w2.heap.size:=setCell_size _ _ _
     have hv:Sup (fun k=>W1.heap.size≤k∧k<w2.heap.size) w2 (fun X=>Bytes X v l∧Whole0 v):=hv
     show Sup (fun k=>W1.heap.size≤k∧k<(w2.setCell ⟨b,0,none⟩ x).heap.size) (w2.setCell ⟨b,0,none⟩ x) _
     rw[hsz]
     exact hv.kept ⟨by rw[hsz];exact Nat.le_refl _,fun k hk=>Below.heap_setCell _ _ _ _ (fun e=>by have:k=b:=e;omega)⟩)
  (enters_any Tryz.func114 rfl rfl)
  (fun l a c h8 hl _ hB h0=>octClo_any A l a c _ _ least most W1 cx1 cx2 h8 hl hB h0 (hE.grown (grown_join h.base hga)))).mono (fun e w' hp=>prROut_weak (r2:=octR w least most) (oct_weak hga.size) (h.afterO hga hp)))
 have HW1:Hid ((w.alloc (.cells #[.int .i64 least] 3)).alloc (.cells #[.int .i64 most] 3)=W1):=hid hW1.symm
 generalize readP s 4 (octR w least most)=p at *
 clear h hE hW1 hga cx1 cx2 hbs
 go_enter Tryz.func63,Tryz.ntmps63
 go_wp2_with (go_at_call 113;rw[HW1.out];refine HR.out.mono ?_;rintro e w3 hp3;obtain ⟨v,hv,hq⟩:=prROut_val hp3;subst hv;have HQ:=hid hq;clear hp3 hq)
 go_ret
 exact ⟨_,rfl,HQ.out⟩
def textR (most:Int) (l:List Nat):Except Nat (World→Value→Prop):=if Pt.asked l most=0 then .ok (fun _ v=>v=.string (strOf l)) else .error (Pt.asked l most)
theorem textClo_any (A:Nat→Addr) (l:List Nat) (a:Option Addr) (c x1:Nat) (most:Int) (W0 w:World) (hb:W0.grownBy w none) (h1:w.cell? ⟨x1,0,none⟩=some (.int .i64 most)) (h8:∀ x∈l,x<256) (hl:l.length≤1000) (hm:inT most) (hB:Bytes w (.slice a l.length c) l) (hS:TxGet A W0) :
  Calls Tryz.prog 116 #[.slice a l.length c,.pointer (some ⟨x1,0,none⟩)] w fun e w'=>GetPost A w w' (textR most l) e:=by
 have HT:=hid (hS (.slice a l.length c) (strOf l) most w (by rw[strOf_size];exact hl) hm hb (by rw[strL_strOf h8];exact hB))
 rw[strL_strOf h8] at HT
 unfold textR
 generalize l.length=n at *
 by_cases hk:Pt.asked l most=0
 ·rw[if_pos hk]
  rw[if_pos hk] at HT
  clear hB h8 hl hm hk hb hS
  go_enter Tryz.func116,Tryz.ntmps116
  go_wp2_with (go_at_call 117;refine HT.out.mono ?_;rintro e w2 ⟨hg2,rfl⟩;have HG2:=hid hg2;clear hg2)
  go_returns
  exact ⟨HG2.out,_,rfl,rfl⟩
 ·rw[if_neg hk]
  rw[if_neg hk] at HT
  clear hB h8 hl hm hk hb hS
  go_enter Tryz.func116,Tryz.ntmps116
  go_wp2_with (go_at_call 117;refine HT.out.mono ?_;rintro e w2 ⟨hg2,rfl⟩;have HG2:=hid hg2;clear hg2)
  go_returns
  exact ⟨HG2.out,_,rfl⟩
theorem rrText_any {A:Nat→Addr} {W0 w:World} {F:Nat→Prop} {b:Nat} {s:De.Rd} (h:PrR A W0 F b s w) (hE:AllErrs W0 A) (hS:TxGet A W0) (hnx:∀ l,Top1 s l→l.length≤1000) (most:Int) (hm:inT most) :
  Calls Tryz.prog 64 #[.pointer (some ⟨b,0,none⟩),.int .i64 most] w fun e w'=>∃ v,e=.returned v∧PrROut A W0 F b w w' (.string ⟨#[]⟩) (readP s 12 (textR most)) e:=by
 obtain ⟨W1,hW1⟩:∃ W1,W1=w.alloc (.cells #[.int .i64 most] 3):=⟨_,rfl⟩
 have hga:w.grownBy W1 none:=by rw[hW1];exact grown_alloc (grown_refl _ _) _
 have cx1:W1.cell? ⟨w.heap.size,0,none⟩=some (.int .i64 most):=by rw[hW1];exact cell_blk (alloc_at _ _) 0 rfl
 have hmf:=mkFn
 have HR:=hid ((prRead_text (h.grow hga) hE 12 116 #[.pointer (some ⟨w.heap.size,0,none⟩)] (textR most)
  (fun l k hk=>by
   unfold textR at hk
   split at hk
   ·exact absurd hk (by simp)
   ·rename_i hne
    obtain rfl:=Except.error.inj hk;exact hne)
  (fun l V hV w2 v x hg hv=>by
   unfold textR at hV
   split at hV
   ·obtain rfl:=Except.ok.inj hV;exact hv
   ·exact absurd hV (by simp))
  (enters_any Tryz.func116 rfl rfl)
  (fun l a c h8 _ hlt hB h0=>textClo_any A l a c _ most W0 W1 (grown_join h.base hga) cx1 h8 (hnx l hlt.2) hm hB hS)).mono (fun e w' hp=>h.afterO hga hp))
 have HW1:Hid (w.alloc (.cells #[.int .i64 most] 3)=W1):=hid hW1.symm
 generalize readP s 12 (textR most)=p at *
 clear h hE hS hW1 hga cx1 hm hnx
 go_enter Tryz.func64,Tryz.ntmps64
 go_wp2_with (go_at_call 115;rw[HW1.out];refine HR.out.mono ?_;rintro e w3 hp3;obtain ⟨v,hv,hq⟩:=prROut_val hp3;subst hv;have HQ:=hid hq;clear hp3 hq)
 go_ret
 exact ⟨_,rfl,HQ.out⟩
def oidR (l:List Nat):Except Nat (World→Value→Prop):=match Od.get l with
 |.ok m=>.ok (fun _ v=>v=.string (strOf (Od.text m)))
 |.error k=>.error k
theorem rrOID_any {A:Nat→Addr} {W0 w:World} {F:Nat→Prop} {b:Nat} {s:De.Rd} (h:PrR A W0 F b s w) (hE:AllErrs W0 A) (hS:GtAny A W0) :
  Calls Tryz.prog 65 #[.pointer (some ⟨b,0,none⟩)] w fun e w'=>∃ v,e=.returned v∧PrROut A W0 F b w w' (.string ⟨#[]⟩) (readP s 6 oidR) e:=by
 have HN:=hid (prRead_text h hE 6 118 #[] oidR
  (fun l k hk=>by
   unfold oidR at hk
   split at hk
   ·exact absurd hk (by simp)
   ·rename_i k2 hq
    obtain rfl:=Except.error.inj hk;exact oget_err hq)
  (fun l V hV w2 v x hg hv=>by
   unfold oidR at hV
   split at hV
   ·obtain rfl:=Except.ok.inj hV;exact hv
   ·exact absurd hV (by simp))
  (enters_any Tryz.func118 rfl rfl)
  (fun l a c h8 h65 hlt hB h0=>(hS _ l w h.base hB (by omega)).mono (fun e w' hp=>by
   obtain ⟨hg,rfl⟩:=hp
   unfold oidR
   cases hq:Od.get l with
   |ok n=>exact ⟨hg,_,rfl,rfl⟩
   |error k=>exact ⟨hg,_,rfl⟩)))
 generalize readP s 6 oidR=p at *
 clear h hE hS
 go_enter Tryz.func65,Tryz.ntmps65
 go_wp2_with (go_at_call 115;refine HN.out.mono ?_;rintro e w3 hp3;obtain ⟨v,hv,hq⟩:=prROut_val hp3;subst hv;have HQ:=hid hq;clear hp3 hq)
 go_ret
 exact ⟨_,rfl,HQ.out⟩
def AnsV (w:World) (k:Int) (x:De.Val) (W:World) (v:Value):Prop :=
 if k=5 then v=.bool x.is else if k=6 then (∃ a c,v=.slice a x.b.length c)∧Sup (fun j=>w.heap.size≤j∧j<W.heap.size) W (fun X=>Bytes X v x.b∧Whole0 v) else if k=7∨k=8 then v=.string (strOf x.t) else v=.int .i64 x.n
def only (k:Int) (x:De.Val):Prop:=x=if k=5 then { De.none0 with is:=x.is } else if k=6 then { De.none0 with b:=x.b } else if k=7∨k=8 then { De.none0 with t:=x.t } else { De.none0 with n:=x.n }
theorem only_none (k:Int):only k De.none0:=by
 unfold only
 by_cases h5:k=5
 ·rw[if_pos h5]
 ·rw[if_neg h5]
  by_cases h6:k=6
  ·rw[if_pos h6]
  ·rw[if_neg h6]
   by_cases h7:k=7∨k=8
   ·rw[if_pos h7]
   ·rw[if_neg h7]
theorem said_only {k least most:Int} {l:List Nat} {x:De.Val} (h:De.said k least most l=.ok x):only k x:=by
 unfold De.said at h
 unfold only
 by_cases h34:k=3∨k=4
 ·rw[if_pos h34] at h
  rw[if_neg (by omega),if_neg (by omega),if_neg (by omega)]
  cases hg:Wh.get l with
  |error e=>rw[hg] at h;exact absurd h (by simp)
  |ok n =>
   rw[hg] at h
   have h:(if n<least∨most<n then (Except.error 1:Except Nat De.Val) else .ok { De.none0 with n:=n })=.ok x:=h
   split at h
   ·exact absurd h (by simp)
   ·obtain rfl:=Except.ok.inj h;rfl
 rw[if_neg h34] at h
 by_cases h5:k=5
 ·rw[if_pos h5] at h ⊢
  split at h
  ·exact absurd h (by simp)
  ·split at h
   ·exact absurd h (by simp)
   ·obtain rfl:=Except.ok.inj h;rfl
 rw[if_neg h5] at h ⊢
 by_cases h6:k=6
 ·rw[if_pos h6] at h ⊢
  split at h
  ·exact absurd h (by simp)
  ·split at h
   ·exact absurd h (by simp)
   ·obtain rfl:=Except.ok.inj h;rfl
 rw[if_neg h6] at h ⊢
 by_cases h7:k=7
 ·rw[if_pos h7] at h
  rw[if_pos (.inl h7)]
  split at h
  ·obtain rfl:=Except.ok.inj h;rfl
  ·exact absurd h (by simp)
 rw[if_neg h7] at h
 by_cases h8:k=8
 ·rw[if_pos h8] at h
  rw[if_pos (.inr h8)]
  cases hg:Od.get l with
  |error e=>rw[hg] at h;exact absurd h (by simp)
  |ok n=>rw[hg] at h;obtain rfl:=Except.ok.inj h;rfl
 rw[if_neg h8] at h
 rw[if_neg (by omega)]
 by_cases h9:k=9
 ·rw[if_pos h9] at h
  cases hg:Cal.get l with
  |error e=>rw[hg] at h;exact absurd h (by simp)
  |ok n=>rw[hg] at h;obtain rfl:=Except.ok.inj h;rfl
 rw[if_neg h9] at h
 cases hg:Pt.mask l with
 |error e=>rw[hg] at h;exact absurd h (by simp)
 |ok n=>rw[hg] at h;obtain rfl:=Except.ok.inj h;rfl
def Tells (w:World) (k least most:Int) (r:List Nat→Except Nat (World→Value→Prop)):Prop:=∀ l,match De.said k least most l with
 |.error e=>r l=.error e
 |.ok x=>∃ V,r l=.ok V∧∀ W v,V W v→AnsV w k x W v
theorem tells_num (w:World) (k least most:Int) (hk:k=3∨k=4):Tells w k least most (numR least most):=fun l=>by
 rw[said_num k least most hk]
 unfold numR rangeOf
 cases hg:Wh.get l with
 |error e =>
  have he:=(show e≠0 from by
   intro h0;subst h0
   revert hg;unfold Wh.get
   repeat' split
   all_goals simp)
  show (if e=0 then _ else _)=_
  rw[if_neg he]
 |ok n =>
  simp only
  by_cases hb:n<least∨most<n
  ·rw[if_pos hb,if_pos hb];rfl
  ·rw[if_neg hb,if_neg hb]
   refine ⟨_,if_pos rfl,fun W v hv=>?_⟩
   unfold AnsV
   rw[if_neg (by omega),if_neg (by omega),if_neg (by omega)]
   exact hv
theorem tells_bool (w:World) (least most:Int):Tells w 5 least most boolR:=fun l=>by
 unfold De.said boolR AnsV
 rw[if_neg (by decide),if_pos rfl]
 match l with
 |[]=>rfl
 |[x] =>
  by_cases h0:x=0
  ·subst h0
   refine ⟨_,rfl,fun W v hv=>?_⟩
   rw[if_pos rfl];exact hv
  ·by_cases h255:x=255
   ·subst h255
    refine ⟨_,rfl,fun W v hv=>?_⟩
    rw[if_pos rfl];exact hv
   ·have e:isTrue [x]=(false,4):=by unfold isTrue;simp[h0,h255]
    rw[e]
    simp[h0,h255]
 |x :: y :: r=>simp[isTrue]
theorem tells_oct (w:World) (least most:Int):Tells w 6 least most (octR w least most):=fun l=>by
 unfold De.said octR
 rw[if_neg (by decide),if_neg (by decide),if_pos rfl]
 by_cases h1:(l.length:Int)<least
 ·rw[if_pos h1,if_pos h1]
 ·rw[if_neg h1,if_neg h1]
  by_cases h2:most<(l.length:Int)
  ·rw[if_pos h2,if_pos h2]
  ·rw[if_neg h2,if_neg h2]
   refine ⟨_,rfl,fun W v hv=>?_⟩
   unfold AnsV
   rw[if_neg (by decide),if_pos rfl]
   have hv:Sup (fun k=>w.heap.size≤k∧k<W.heap.size) W (fun X=>Bytes X v l∧Whole0 v):=hv
   obtain ⟨_,a,_,_,c,e,_⟩:=hv.now.1
   exact ⟨⟨a,c,e⟩,hv⟩
theorem tells_text (w:World) (least most:Int):Tells w 7 least most (textR most):=fun l=>by
 unfold De.said textR
 rw[if_neg (by decide),if_neg (by decide),if_neg (by decide),if_pos rfl]
 by_cases h1:Pt.asked l most=0
 ·rw[if_pos h1,if_pos h1]
  refine ⟨_,rfl,fun W v hv=>?_⟩
  unfold AnsV
  rw[if_neg (by decide),if_neg (by decide),if_pos (by decide)]
  exact hv
 ·rw[if_neg h1,if_neg h1]
theorem tells_oid (w:World) (least most:Int):Tells w 8 least most oidR:=fun l=>by
 unfold De.said oidR
 rw[if_neg (by decide),if_neg (by decide),if_neg (by decide),if_neg (by decide),if_pos rfl]
 cases hg:Od.get l with
 |error e=>rfl
 |ok n =>
  refine ⟨_,rfl,fun W v hv=>?_⟩
  unfold AnsV
  rw[if_neg (by decide),if_neg (by decide),if_pos (by decide)]
  exact hv
theorem tells_moment (w:World) (least most:Int):Tells w 9 least most momentR:=fun l=>by
 unfold De.said momentR
 rw[if_neg (by decide),if_neg (by decide),if_neg (by decide),if_neg (by decide),if_neg (by decide),if_pos rfl]
 cases hg:Cal.get l with
 |error e=>rfl
 |ok n =>
  refine ⟨_,rfl,fun W v hv=>?_⟩
  unfold AnsV
  rw[if_neg (by decide),if_neg (by decide),if_neg (by decide)]
  exact hv
theorem tells_flags (w:World) (k least most:Int) (hk:k<3∨9<k):Tells w k least most flagsR:=fun l=>by
 unfold De.said flagsR
 rw[if_neg (by omega),if_neg (by omega),if_neg (by omega),if_neg (by omega),if_neg (by omega),if_neg (by omega)]
 cases hg:Pt.mask l with
 |error e=>rfl
 |ok n =>
  refine ⟨_,rfl,fun W v hv=>?_⟩
  unfold AnsV
  rw[if_neg (by omega),if_neg (by omega),if_neg (by omega)]
  exact hv
section
variable {A:Nat→Addr} {W0 w w2:World} {F:Nat→Prop} {b:Nat} {s:De.Rd}
theorem PrR.sane (h:PrR A W0 F b s w):De.Sane s:=by
 by_cases he:s.e=0
 ·obtain ⟨_,_,_,_,_,h2⟩:=h.at0 he
  exact h2.sane
 ·exact fun h0=>absurd h0 he
structure AskPost (A:Nat→Addr) (W0:World) (F:Nat→Prop) (b:Nat) (s:De.Rd) (k tag least most:Int) (w w':World) (v:Value):Prop where
 upto:Upto F w w'
 rd:PrR A W0 (Ext F w w') b (De.ask s k tag least most).1 w'
 ans:AnsV w k (De.ask s k tag least most).2 w' v
 one:only k (De.ask s k tag least most).2
theorem ask_out {w':World} {Z v:Value} {k tag least most:Int} {r:List Nat→Except Nat (World→Value→Prop)} (h:PrR A W0 F b s w) (h1:k≠1) (h2:k≠2) (h11:k≠11) (ht:Tells w k least most r) (hp:PrROut A W0 F b w w' Z (readP s (De.tagOf k) r) (.returned v)) (hZ:AnsV w k De.none0 w' Z) :
  AskPost A W0 F b s k tag least most w w' v:=by
 obtain ⟨q1,q2,q3⟩:=hp
 obtain ⟨p1,p2,p3⟩:=ask_read (s:=s) h.sane k tag least most h1 h2 h11 r (fun l=>by
  have:=ht l
  revert this
  cases De.said k least most l with
  |error e=>exact fun h=>h
  |ok x=>exact fun ⟨V,hV,_⟩=>⟨V,hV⟩)
 have hst:PrR A W0 (Ext F w w') b (De.ask s k tag least most).1 w':=by
  by_cases he:(readP s (De.tagOf k) r).1.e=0
  ·rw[←p2 he];exact q2
  ·exact q2.err_any he p1.symm
 revert q3 p3
 cases (readP s (De.tagOf k) r).2 with
 |none =>
  intro q3 p3
  have q3:Ending.returned v=.returned Z:=q3
  have p3:(De.ask s k tag least most).2=De.none0:=p3
  refine ⟨q1,hst,?_,?_⟩
  ·rw[p3];obtain rfl:=Ending.returned.inj q3;exact hZ
  ·rw[p3];exact only_none k
 |some V =>
  intro q3 p3
  obtain ⟨v',e,hv⟩:∃ v',Ending.returned v=.returned v'∧V w' v':=q3
  obtain rfl:=Ending.returned.inj e
  obtain ⟨l,hl,hs⟩:∃ l,r l=.ok V∧De.said k least most l=.ok (De.ask s k tag least most).2:=p3
  have:=ht l
  rw[hs] at this
  obtain ⟨V2,e2,h3⟩:∃ V,r l=.ok V∧∀ W v,V W v→AnsV w k (De.ask s k tag least most).2 W v:=this
  rw[hl] at e2
  obtain rfl:=Except.ok.inj e2
  exact ⟨q1,hst,h3 _ _ hv,said_only hs⟩
theorem ans_none (w:World) (k:Int) (W:World) (hw:w.heap.size≤W.heap.size):AnsV w k De.none0 W (if k=5 then .bool false else if k=6 then .slice none 0 0 else if k=7∨k=8 then .string ⟨#[]⟩ else .int .i64 0):=by
 unfold AnsV
 by_cases h5:k=5
 ·rw[if_pos h5,if_pos h5];rfl
 rw[if_neg h5,if_neg h5]
 by_cases h6:k=6
 ·rw[if_pos h6,if_pos h6]
  exact ⟨⟨none,0,rfl⟩,fun j hj=>hj.2,fun W' _=>⟨⟨by simp[De.none0],none,0,0,0,rfl,Nat.le_refl _,fun h=>absurd h (by simp[De.none0]),fun j hj=>absurd hj (by simp[De.none0])⟩,fun n c e=>by cases e;exact ⟨rfl,rfl⟩⟩⟩
 rw[if_neg h6,if_neg h6]
 by_cases h7:k=7∨k=8
 ·rw[if_pos h7,if_pos h7];rfl
 ·rw[if_neg h7,if_neg h7];rfl
end
structure ReadsOf (A:Nat→Addr) (w:World):Prop where
 errs:AllErrs w A
 moment:MoGet A w
 flags:TxMask A w
 text:TxGet A w
 oid:GtAny A w
section
variable {A:Nat→Addr} {W0 w:World} {F:Nat→Prop} {b:Nat} {s:De.Rd}
theorem raInt (h:PrR A W0 F b s w) (hA:ReadsOf A W0) (tag least most:Int) :
  Calls Tryz.prog 54 #[.pointer (some ⟨b,0,none⟩),.int .i64 least,.int .i64 most] w fun e w'=>∃ v,e=.returned v∧AskPost A W0 F b s 3 tag least most w w' v :=
 (rrInt_any h hA.errs least most).mono (fun e w' ⟨v,he,hp⟩=>by
  subst he
  exact ⟨v,rfl,ask_out h (by decide) (by decide) (by decide) (tells_num w 3 least most (.inl rfl)) hp (ans_none w 3 w' hp.1.size)⟩)
theorem raEnum (h:PrR A W0 F b s w) (hA:ReadsOf A W0) (tag least most:Int) :
  Calls Tryz.prog 61 #[.pointer (some ⟨b,0,none⟩),.int .i64 least,.int .i64 most] w fun e w'=>∃ v,e=.returned v∧AskPost A W0 F b s 4 tag least most w w' v :=
 (rrEnum_any h hA.errs least most).mono (fun e w' ⟨v,he,hp⟩=>by
  subst he
  exact ⟨v,rfl,ask_out h (by decide) (by decide) (by decide) (tells_num w 4 least most (.inr rfl)) hp (ans_none w 4 w' hp.1.size)⟩)
theorem raBool (h:PrR A W0 F b s w) (hA:ReadsOf A W0) (tag least most:Int) :
  Calls Tryz.prog 62 #[.pointer (some ⟨b,0,none⟩)] w fun e w'=>∃ v,e=.returned v∧AskPost A W0 F b s 5 tag least most w w' v :=
 (rrBool_any h hA.errs).mono (fun e w' ⟨v,he,hp⟩=>by
  subst he
  exact ⟨v,rfl,ask_out h (by decide) (by decide) (by decide) (tells_bool w least most) hp (ans_none w 5 w' hp.1.size)⟩)
theorem raOctets (h:PrR A W0 F b s w) (hA:ReadsOf A W0) (tag least most:Int) :
  Calls Tryz.prog 63 #[.pointer (some ⟨b,0,none⟩),.int .i64 least,.int .i64 most] w fun e w'=>∃ v,e=.returned v∧AskPost A W0 F b s 6 tag least most w w' v :=
 (rrOctets_any h hA.errs least most).mono (fun e w' ⟨v,he,hp⟩=>by
  subst he
  exact ⟨v,rfl,ask_out h (by decide) (by decide) (by decide) (tells_oct w least most) hp (ans_none w 6 w' hp.1.size)⟩)
theorem raText (h:PrR A W0 F b s w) (hA:ReadsOf A W0) (hnx:∀ l,Top1 s l→l.length≤1000) (tag least most:Int) (hm:inT most) :
  Calls Tryz.prog 64 #[.pointer (some ⟨b,0,none⟩),.int .i64 most] w fun e w'=>∃ v,e=.returned v∧AskPost A W0 F b s 7 tag least most w w' v :=
 (rrText_any h hA.errs hA.text hnx most hm).mono (fun e w' ⟨v,he,hp⟩=>by
  subst he
  exact ⟨v,rfl,ask_out h (by decide) (by decide) (by decide) (tells_text w least most) hp (ans_none w 7 w' hp.1.size)⟩)
theorem raOID (h:PrR A W0 F b s w) (hA:ReadsOf A W0) (tag least most:Int) :
  Calls Tryz.prog 65 #[.pointer (some ⟨b,0,none⟩)] w fun e w'=>∃ v,e=.returned v∧AskPost A W0 F b s 8 tag least most w w' v :=
 (rrOID_any h hA.errs hA.oid).mono (fun e w' ⟨v,he,hp⟩=>by
  subst he
  exact ⟨v,rfl,ask_out h (by decide) (by decide) (by decide) (tells_oid w least most) hp (ans_none w 8 w' hp.1.size)⟩)
theorem raMoment (h:PrR A W0 F b s w) (hA:ReadsOf A W0) (hnx:∀ l,Top1 s l→l.length≤1000) (tag least most:Int) :
  Calls Tryz.prog 66 #[.pointer (some ⟨b,0,none⟩)] w fun e w'=>∃ v,e=.returned v∧AskPost A W0 F b s 9 tag least most w w' v :=
 (rrMoment_any h hA.errs hA.moment hnx).mono (fun e w' ⟨v,he,hp⟩=>by
  subst he
  exact ⟨v,rfl,ask_out h (by decide) (by decide) (by decide) (tells_moment w least most) hp (ans_none w 9 w' hp.1.size)⟩)
theorem raFlags (h:PrR A W0 F b s w) (hA:ReadsOf A W0) (hnx:∀ l,Top1 s l→l.length≤1000) (k tag least most:Int) (hk:k<1∨9<k) (h11:k≠11) :
  Calls Tryz.prog 68 #[.pointer (some ⟨b,0,none⟩)] w fun e w'=>∃ v,e=.returned v∧AskPost A W0 F b s k tag least most w w' v :=
 (rrFlags_any h hA.errs hA.flags hnx).mono (fun e w' ⟨v,he,hp⟩=>by
  subst he
  have ht:De.tagOf k=3:=by unfold De.tagOf;repeat' (first|rw[if_neg (by omega)])
  refine ⟨v,rfl,ask_out h (by omega) (by omega) h11 (tells_flags w k least most (by omega)) (by rw[ht];exact hp) ?_⟩
  have:=ans_none w k w' hp.1.size
  rw[if_neg (by omega),if_neg (by omega),if_neg (by omega)] at this
  exact this)
end
def ValA (w:World) (x:De.Val) (W:World) (v:Value):Prop:=∃ a c,v=.agg #[.int .i64 0,.int .i64 x.n,.bool x.is,.slice a x.b.length c,.string (strOf x.t)]∧Sup (fun j=>w.heap.size≤j∧j<W.heap.size) W (fun X=>Bytes X (.slice a x.b.length c) x.b∧Whole0 (.slice a x.b.length c))
structure GotPost (A:Nat→Addr) (W0:World) (F:Nat→Prop) (b:Nat) (s:De.Rd) (k tag least most:Int) (w w':World) (v:Value):Prop where
 upto:Upto F w w'
 rd:PrR A W0 (Ext F w w') b (De.ask s k tag least most).1 w'
 ans:ValA w (De.ask s k tag least most).2 w' v
section
variable {A:Nat→Addr} {W0 w:World} {F:Nat→Prop} {b:Nat} {s:De.Rd}
theorem ans_num {k:Int} {x:De.Val} {w W:World} {v:Value} (h:AnsV w k x W v) (h1:only k x) (hk:k≠5∧k≠6∧k≠7∧k≠8):v=.int .i64 x.n∧x.is=false∧x.b=[]∧x.t=[]:=by
 unfold AnsV at h;unfold only at h1
 rw[if_neg hk.1,if_neg hk.2.1,if_neg (by omega)] at h h1
 exact ⟨h,by rw[h1];rfl,by rw[h1];rfl,by rw[h1];rfl⟩
theorem ans_bool {x:De.Val} {w W:World} {v:Value} (h:AnsV w 5 x W v) (h1:only 5 x):v=.bool x.is∧x.n=0∧x.b=[]∧x.t=[]:=by
 unfold AnsV at h;unfold only at h1
 rw[if_pos rfl] at h h1
 exact ⟨h,by rw[h1];rfl,by rw[h1];rfl,by rw[h1];rfl⟩
theorem ans_oct {x:De.Val} {w W:World} {v:Value} (h:AnsV w 6 x W v) (h1:only 6 x):(∃ a c,v=.slice a x.b.length c)∧Sup (fun j=>w.heap.size≤j∧j<W.heap.size) W (fun X=>Bytes X v x.b∧Whole0 v)∧x.n=0∧x.is=false∧x.t=[]:=by
 unfold AnsV at h;unfold only at h1
 rw[if_neg (by decide),if_pos rfl] at h h1
 exact ⟨h.1,h.2,by rw[h1];rfl,by rw[h1];rfl,by rw[h1];rfl⟩
theorem ans_text {k:Int} {x:De.Val} {w W:World} {v:Value} (h:AnsV w k x W v) (h1:only k x) (hk:k=7∨k=8):v=.string (strOf x.t)∧x.n=0∧x.is=false∧x.b=[]:=by
 unfold AnsV at h;unfold only at h1
 rw[if_neg (by omega),if_neg (by omega),if_pos hk] at h h1
 exact ⟨h,by rw[h1];rfl,by rw[h1];rfl,by rw[h1];rfl⟩
theorem sup_nil (w W:World):Sup (fun j=>w.heap.size≤j∧j<W.heap.size) W (fun X=>Bytes X (.slice none 0 0) []∧Whole0 (.slice none 0 0)) :=
 ⟨fun j hj=>hj.2,fun W' _=>⟨⟨by simp,none,0,0,0,rfl,Nat.le_refl _,fun h=>absurd h (by simp),fun j hj=>absurd hj (by simp)⟩,fun n c e=>by cases e;exact ⟨rfl,rfl⟩⟩⟩
theorem grown_setRow_at (w:World) (g:Nat) (cs:Array Value):w.grownBy (w.setRow g cs) (some g):=⟨rfl,rfl,rfl,by simp,fun k hk hne=>setRow_other _ _ _ _ (fun e=>hne (by rw[e]))⟩
theorem one5 (k n:Int) (q:Bool) (a:Option Addr) (l c:Nat) (S:ByteArray):(#[.int .i64 k,.int .i64 n,.bool q,.slice a l c,.string S]:Array Value).all (·.oneCell')=true:=by simp[Value.oneCell']
theorem got_fin (h:PrR A W0 F b s w) {oa oc:Obj} {W2 w3 w4:World} {D:Array Value} {k tag least most:Int} {v u:Value} (hW:W2=(w.alloc oa).alloc oc) (hp:AskPost A W0 F b s k tag least most W2 w3 v) (h4:w4=w3.setRow (w.heap.size+1) D)
  (hu:∃ a c,u=.agg #[.int .i64 0,.int .i64 (De.ask s k tag least most).2.n,.bool (De.ask s k tag least most).2.is,.slice a (De.ask s k tag least most).2.b.length c,.string (strOf (De.ask s k tag least most).2.t)]∧Sup (fun j=>W2.heap.size≤j∧j<w3.heap.size) w3 (fun X=>Bytes X (.slice a (De.ask s k tag least most).2.b.length c) (De.ask s k tag least most).2.b∧Whole0 (.slice a (De.ask s k tag least most).2.b.length c))) :
  GotPost A W0 F b s k tag least most w w4 u:=by
 have hga:w.grownBy W2 none:=by rw[hW];exact grown_alloc (World.grownBy_alloc _ _ _) _
 have hs2:W2.heap.size=w.heap.size+2:=by rw[hW,alloc2_size]
 have hsz:w4.heap.size=w3.heap.size:=by rw[h4];simp
 have hq:=hp.upto.size
 have hub:Upto (fun j=>j=w.heap.size+1) w3 w4:=by
  rw[h4]
  exact Upto.of_row (row:=some (w.heap.size+1)) (grown_setRow_at _ _ _) (fun j hj=>.inl (Option.some.inj hj).symm)
 have hap:Apart (fun j=>j=w.heap.size+1) (Ext F W2 w3):=fun j hj hf=>by
  rcases hf with hf|hf
  ·have:=(h.own j hf).2;omega
  ·omega
 have hr:=hp.rd.other (G:=fun j=>j=w.heap.size+1) (G':=fun j=>j=w.heap.size+1) (fun j hj=>by have:=h.base.size;omega) ⟨hub,fun _ _ h=>h⟩ hap
 refine ⟨?_,hr.wide (fun j hj=>?_) (ext_own h.base h.own (by have:=hga.size;omega)),?_⟩
 ·refine ((Upto.of_grown F hga).trans hp.upto (fun _ _ h=>h)).trans hub (fun j hj hf=>?_)
  omega
 ·rcases hj with hj|hj
  ·exact .inl hj
  ·exact .inr ⟨by omega,by omega⟩
 ·obtain ⟨a,c,e,hs⟩:=hu
  refine ⟨a,c,e,(hs.upto hub (fun j hj e=>by omega)).mono (fun j hj=>⟨by omega,by omega⟩) (fun j hj=>hj.2)⟩
end
theorem lget_Int {A:Nat→Addr} {W0 w:World} {F:Nat→Prop} {b:Nat} {s:De.Rd} (h:PrR A W0 F b s w) (hA:ReadsOf A W0) (hnx:∀ l,Top1 s l→l.length≤1000) (tag least most:Int) (hm:inT most) :
  Calls Tryz.prog 20 #[.pointer (some ⟨b,0,none⟩),.agg #[.int .i64 3,.int .i64 tag,.int .i64 least,.int .i64 most]] w fun e w'=>∃ v,e=.returned v∧GotPost A W0 F b s 3 tag least most w w' v:=by
 obtain ⟨W2,hW2⟩:∃ W2,W2=(w.alloc (.cells #[.int .i64 3,.int .i64 tag,.int .i64 least,.int .i64 most] 31)).alloc (.cells #[.int .i64 0,.int .i64 0,.bool false,.slice none 0 0,.string ⟨#[]⟩] 41):=⟨_,rfl⟩
 have hga:w.grownBy W2 none:=by rw[hW2];exact grown_alloc (World.grownBy_alloc _ _ _) _
 have b0:W2.heap[w.heap.size]?=some (.cells #[.int .i64 3,.int .i64 tag,.int .i64 least,.int .i64 most] 31 (0,0)):=by rw[hW2];exact alloc2_old _ _ _
 have b1:W2.heap[w.heap.size+1]?=some (.cells #[.int .i64 0,.int .i64 0,.bool false,.slice none 0 0,.string ⟨#[]⟩] 41 (0,0)):=by rw[hW2];exact alloc2_new _ _ _
 have hs2:W2.heap.size=w.heap.size+2:=by rw[hW2,alloc2_size]
 have c0:=cell_blk b0 0 rfl
 have c1:=cell_blk b0 1 rfl
 have c2:=cell_blk b0 2 rfl
 have c3:=cell_blk b0 3 rfl
 have h2:=h.still hga
 have HN:Hid (Calls Tryz.prog 54 #[.pointer (some ⟨b,0,none⟩),.int .i64 least,.int .i64 most] W2 fun e w'=>(∃ n1:Int,e=.returned (.int .i64 n1)∧AskPost A W0 F b s 3 tag least most W2 w' (.int .i64 n1))∧w'.heap[w.heap.size+1]?=some (.cells #[.int .i64 0,.int .i64 0,.bool false,.slice none 0 0,.string ⟨#[]⟩] 41 (0,0))):=hid ((raInt h2 hA tag least most).mono (fun e w' ⟨v,he,hp⟩=>by
  subst he
  refine ⟨by obtain ⟨h1,_⟩:=ans_num hp.ans hp.one (by decide);exact ⟨_,by rw[h1],by rw[h1] at hp;exact hp⟩,?_⟩
  rw[hp.upto.block _ (by omega) (fun hf=>by have:=(h.own _ hf).2;omega)];exact b1))
 have HX:=hid h
 have HW2:=hid hW2
 have HI5:Hid ((Tryz.prog.info? 41).map (·.size)=some 5):=hid (by kernel_rfl)
 clear h hA hnx hm hga hs2 h2 b0 b1
 go_enter Tryz.func20,Tryz.ntmps20
 go_wp2_with (first
  |(go_at_call 54;rw[←HW2.out];refine HN.out.mono ?_;rintro e w3 ⟨⟨n1,rfl,hp3⟩,hb3⟩;have HP3:=hid hp3;have HB3:=hid hb3;clear hp3 hb3)
  |(refine wpList_store_row (by rfl) 41 (.tmp 4) (.tmp 27) (by rfl) (w.heap.size+1) #[.int .i64 0,.int .i64 n1,.bool false,.slice none 0 0,.string ⟨#[]⟩] (by rfl) (by rfl) _ _ HB3.out HI5.out rfl (one5 _ _ _ _ _ _ _) ?_;obtain ⟨w4,hw4⟩:∃ w4,w4=w3.setRow (w.heap.size+1) #[.int .i64 0,.int .i64 n1,.bool false,.slice none 0 0,.string ⟨#[]⟩]:=⟨_,rfl⟩;rw[←hw4];have hb4:w4.heap[w.heap.size+1]?=some (.cells #[.int .i64 0,.int .i64 n1,.bool false,.slice none 0 0,.string ⟨#[]⟩] 41 (0,0)):=(by rw[hw4];exact setRow_heap _ _ _ _ _ _ HB3.out);have HW4:=hid hw4;have HB4:=hid hb4;clear hw4 hb4))
 refine bodyPost_ret (v:=.agg #[.int .i64 0,.int .i64 n1,.bool false,.slice none 0 0,.string ⟨#[]⟩]) ?_ rfl ⟨_,rfl,got_fin HX.out HW2.out HP3.out HW4.out ?_⟩
 ·exact results_cell_row Tryz.results20 _ _ (w.heap.size+1) _ _ (0,0) _ rfl HB4.out Tryz.underlying41 rfl HI5.out
 obtain ⟨h1,h2,h3,h4⟩:=ans_num HP3.out.ans HP3.out.one (by decide)
 have h1:n1=_:=(Value.int.inj h1).2
 refine ⟨none,0,by rw[h2,h3,h4,←h1];rfl,?_⟩
 rw[h3];exact sup_nil _ _
theorem lget_Enum {A:Nat→Addr} {W0 w:World} {F:Nat→Prop} {b:Nat} {s:De.Rd} (h:PrR A W0 F b s w) (hA:ReadsOf A W0) (hnx:∀ l,Top1 s l→l.length≤1000) (tag least most:Int) (hm:inT most) :
  Calls Tryz.prog 20 #[.pointer (some ⟨b,0,none⟩),.agg #[.int .i64 4,.int .i64 tag,.int .i64 least,.int .i64 most]] w fun e w'=>∃ v,e=.returned v∧GotPost A W0 F b s 4 tag least most w w' v:=by
 obtain ⟨W2,hW2⟩:∃ W2,W2=(w.alloc (.cells #[.int .i64 4,.int .i64 tag,.int .i64 least,.int .i64 most] 31)).alloc (.cells #[.int .i64 0,.int .i64 0,.bool false,.slice none 0 0,.string ⟨#[]⟩] 41):=⟨_,rfl⟩
 have hga:w.grownBy W2 none:=by rw[hW2];exact grown_alloc (World.grownBy_alloc _ _ _) _
 have b0:W2.heap[w.heap.size]?=some (.cells #[.int .i64 4,.int .i64 tag,.int .i64 least,.int .i64 most] 31 (0,0)):=by rw[hW2];exact alloc2_old _ _ _
 have b1:W2.heap[w.heap.size+1]?=some (.cells #[.int .i64 0,.int .i64 0,.bool false,.slice none 0 0,.string ⟨#[]⟩] 41 (0,0)):=by rw[hW2];exact alloc2_new _ _ _
 have hs2:W2.heap.size=w.heap.size+2:=by rw[hW2,alloc2_size]
 have c0:=cell_blk b0 0 rfl
 have c1:=cell_blk b0 1 rfl
 have c2:=cell_blk b0 2 rfl
 have c3:=cell_blk b0 3 rfl
 have h2:=h.still hga
 have HN:Hid (Calls Tryz.prog 61 #[.pointer (some ⟨b,0,none⟩),.int .i64 least,.int .i64 most] W2 fun e w'=>(∃ n1:Int,e=.returned (.int .i64 n1)∧AskPost A W0 F b s 4 tag least most W2 w' (.int .i64 n1))∧w'.heap[w.heap.size+1]?=some (.cells #[.int .i64 0,.int .i64 0,.bool false,.slice none 0 0,.string ⟨#[]⟩] 41 (0,0))):=hid ((raEnum h2 hA tag least most).mono (fun e w' ⟨v,he,hp⟩=>by
  subst he
  refine ⟨by obtain ⟨h1,_⟩:=ans_num hp.ans hp.one (by decide);exact ⟨_,by rw[h1],by rw[h1] at hp;exact hp⟩,?_⟩
  rw[hp.upto.block _ (by omega) (fun hf=>by have:=(h.own _ hf).2;omega)];exact b1))
 have HX:=hid h
 have HW2:=hid hW2
 have HI5:Hid ((Tryz.prog.info? 41).map (·.size)=some 5):=hid (by kernel_rfl)
 clear h hA hnx hm hga hs2 h2 b0 b1
 go_enter Tryz.func20,Tryz.ntmps20
 go_wp2_with (first
  |(go_at_call 61;rw[←HW2.out];refine HN.out.mono ?_;rintro e w3 ⟨⟨n1,rfl,hp3⟩,hb3⟩;have HP3:=hid hp3;have HB3:=hid hb3;clear hp3 hb3)
  |(refine wpList_store_row (by rfl) 41 (.tmp 4) (.tmp 36) (by rfl) (w.heap.size+1) #[.int .i64 0,.int .i64 n1,.bool false,.slice none 0 0,.string ⟨#[]⟩] (by rfl) (by rfl) _ _ HB3.out HI5.out rfl (one5 _ _ _ _ _ _ _) ?_;obtain ⟨w4,hw4⟩:∃ w4,w4=w3.setRow (w.heap.size+1) #[.int .i64 0,.int .i64 n1,.bool false,.slice none 0 0,.string ⟨#[]⟩]:=⟨_,rfl⟩;rw[←hw4];have hb4:w4.heap[w.heap.size+1]?=some (.cells #[.int .i64 0,.int .i64 n1,.bool false,.slice none 0 0,.string ⟨#[]⟩] 41 (0,0)):=(by rw[hw4];exact setRow_heap _ _ _ _ _ _ HB3.out);have HW4:=hid hw4;have HB4:=hid hb4;clear hw4 hb4))
 refine bodyPost_ret (v:=.agg #[.int .i64 0,.int .i64 n1,.bool false,.slice none 0 0,.string ⟨#[]⟩]) ?_ rfl ⟨_,rfl,got_fin HX.out HW2.out HP3.out HW4.out ?_⟩
 ·exact results_cell_row Tryz.results20 _ _ (w.heap.size+1) _ _ (0,0) _ rfl HB4.out Tryz.underlying41 rfl HI5.out
 obtain ⟨h1,h2,h3,h4⟩:=ans_num HP3.out.ans HP3.out.one (by decide)
 have h1:n1=_:=(Value.int.inj h1).2
 refine ⟨none,0,by rw[h2,h3,h4,←h1];rfl,?_⟩
 rw[h3];exact sup_nil _ _
theorem lget_Bool {A:Nat→Addr} {W0 w:World} {F:Nat→Prop} {b:Nat} {s:De.Rd} (h:PrR A W0 F b s w) (hA:ReadsOf A W0) (hnx:∀ l,Top1 s l→l.length≤1000) (tag least most:Int) (hm:inT most) :
  Calls Tryz.prog 20 #[.pointer (some ⟨b,0,none⟩),.agg #[.int .i64 5,.int .i64 tag,.int .i64 least,.int .i64 most]] w fun e w'=>∃ v,e=.returned v∧GotPost A W0 F b s 5 tag least most w w' v:=by
 obtain ⟨W2,hW2⟩:∃ W2,W2=(w.alloc (.cells #[.int .i64 5,.int .i64 tag,.int .i64 least,.int .i64 most] 31)).alloc (.cells #[.int .i64 0,.int .i64 0,.bool false,.slice none 0 0,.string ⟨#[]⟩] 41):=⟨_,rfl⟩
 have hga:w.grownBy W2 none:=by rw[hW2];exact grown_alloc (World.grownBy_alloc _ _ _) _
 have b0:W2.heap[w.heap.size]?=some (.cells #[.int .i64 5,.int .i64 tag,.int .i64 least,.int .i64 most] 31 (0,0)):=by rw[hW2];exact alloc2_old _ _ _
 have b1:W2.heap[w.heap.size+1]?=some (.cells #[.int .i64 0,.int .i64 0,.bool false,.slice none 0 0,.string ⟨#[]⟩] 41 (0,0)):=by rw[hW2];exact alloc2_new _ _ _
 have hs2:W2.heap.size=w.heap.size+2:=by rw[hW2,alloc2_size]
 have c0:=cell_blk b0 0 rfl
 have c1:=cell_blk b0 1 rfl
 have c2:=cell_blk b0 2 rfl
 have c3:=cell_blk b0 3 rfl
 have h2:=h.still hga
 have HN:Hid (Calls Tryz.prog 62 #[.pointer (some ⟨b,0,none⟩)] W2 fun e w'=>(∃ q1:Bool,e=.returned (.bool q1)∧AskPost A W0 F b s 5 tag least most W2 w' (.bool q1))∧w'.heap[w.heap.size+1]?=some (.cells #[.int .i64 0,.int .i64 0,.bool false,.slice none 0 0,.string ⟨#[]⟩] 41 (0,0))):=hid ((raBool h2 hA tag least most).mono (fun e w' ⟨v,he,hp⟩=>by
  subst he
  refine ⟨by obtain ⟨h1,_⟩:=ans_bool hp.ans hp.one;exact ⟨_,by rw[h1],by rw[h1] at hp;exact hp⟩,?_⟩
  rw[hp.upto.block _ (by omega) (fun hf=>by have:=(h.own _ hf).2;omega)];exact b1))
 have HX:=hid h
 have HW2:=hid hW2
 have HI5:Hid ((Tryz.prog.info? 41).map (·.size)=some 5):=hid (by kernel_rfl)
 clear h hA hnx hm hga hs2 h2 b0 b1
 go_enter Tryz.func20,Tryz.ntmps20
 go_wp2_with (first
  |(go_at_call 62;rw[←HW2.out];refine HN.out.mono ?_;rintro e w3 ⟨⟨q1,rfl,hp3⟩,hb3⟩;have HP3:=hid hp3;have HB3:=hid hb3;clear hp3 hb3)
  |(refine wpList_store_row (by rfl) 41 (.tmp 4) (.tmp 41) (by rfl) (w.heap.size+1) #[.int .i64 0,.int .i64 0,.bool q1,.slice none 0 0,.string ⟨#[]⟩] (by rfl) (by rfl) _ _ HB3.out HI5.out rfl (one5 _ _ _ _ _ _ _) ?_;obtain ⟨w4,hw4⟩:∃ w4,w4=w3.setRow (w.heap.size+1) #[.int .i64 0,.int .i64 0,.bool q1,.slice none 0 0,.string ⟨#[]⟩]:=⟨_,rfl⟩;rw[←hw4];have hb4:w4.heap[w.heap.size+1]?=some (.cells #[.int .i64 0,.int .i64 0,.bool q1,.slice none 0 0,.string ⟨#[]⟩] 41 (0,0)):=(by rw[hw4];exact setRow_heap _ _ _ _ _ _ HB3.out);have HW4:=hid hw4;have HB4:=hid hb4;clear hw4 hb4))
 refine bodyPost_ret (v:=.agg #[.int .i64 0,.int .i64 0,.bool q1,.slice none 0 0,.string ⟨#[]⟩]) ?_ rfl ⟨_,rfl,got_fin HX.out HW2.out HP3.out HW4.out ?_⟩
 ·exact results_cell_row Tryz.results20 _ _ (w.heap.size+1) _ _ (0,0) _ rfl HB4.out Tryz.underlying41 rfl HI5.out
 obtain ⟨h1,h2,h3,h4⟩:=ans_bool HP3.out.ans HP3.out.one
 have h1:q1=_:=Value.bool.inj h1
 refine ⟨none,0,by rw[h2,h3,h4,←h1];rfl,?_⟩
 rw[h3];exact sup_nil _ _
theorem lget_Octets {A:Nat→Addr} {W0 w:World} {F:Nat→Prop} {b:Nat} {s:De.Rd} (h:PrR A W0 F b s w) (hA:ReadsOf A W0) (hnx:∀ l,Top1 s l→l.length≤1000) (tag least most:Int) (hm:inT most) :
  Calls Tryz.prog 20 #[.pointer (some ⟨b,0,none⟩),.agg #[.int .i64 6,.int .i64 tag,.int .i64 least,.int .i64 most]] w fun e w'=>∃ v,e=.returned v∧GotPost A W0 F b s 6 tag least most w w' v:=by
 obtain ⟨W2,hW2⟩:∃ W2,W2=(w.alloc (.cells #[.int .i64 6,.int .i64 tag,.int .i64 least,.int .i64 most] 31)).alloc (.cells #[.int .i64 0,.int .i64 0,.bool false,.slice none 0 0,.string ⟨#[]⟩] 41):=⟨_,rfl⟩
 have hga:w.grownBy W2 none:=by rw[hW2];exact grown_alloc (World.grownBy_alloc _ _ _) _
 have b0:W2.heap[w.heap.size]?=some (.cells #[.int .i64 6,.int .i64 tag,.int .i64 least,.int .i64 most] 31 (0,0)):=by rw[hW2];exact alloc2_old _ _ _
 have b1:W2.heap[w.heap.size+1]?=some (.cells #[.int .i64 0,.int .i64 0,.bool false,.slice none 0 0,.string ⟨#[]⟩] 41 (0,0)):=by rw[hW2];exact alloc2_new _ _ _
 have hs2:W2.heap.size=w.heap.size+2:=by rw[hW2,alloc2_size]
 have c0:=cell_blk b0 0 rfl
 have c1:=cell_blk b0 1 rfl
 have c2:=cell_blk b0 2 rfl
 have c3:=cell_blk b0 3 rfl
 have h2:=h.still hga
 have HN:Hid (Calls Tryz.prog 63 #[.pointer (some ⟨b,0,none⟩),.int .i64 least,.int .i64 most] W2 fun e w'=>(∃ a1 n1 c1,e=.returned (.slice a1 n1 c1)∧AskPost A W0 F b s 6 tag least most W2 w' (.slice a1 n1 c1))∧w'.heap[w.heap.size+1]?=some (.cells #[.int .i64 0,.int .i64 0,.bool false,.slice none 0 0,.string ⟨#[]⟩] 41 (0,0))):=hid ((raOctets h2 hA tag least most).mono (fun e w' ⟨v,he,hp⟩=>by
  subst he
  refine ⟨by obtain ⟨⟨a,c,h1⟩,_⟩:=ans_oct hp.ans hp.one;exact ⟨a,_,c,by rw[h1],by rw[h1] at hp;exact hp⟩,?_⟩
  rw[hp.upto.block _ (by omega) (fun hf=>by have:=(h.own _ hf).2;omega)];exact b1))
 have HX:=hid h
 have HW2:=hid hW2
 have HI5:Hid ((Tryz.prog.info? 41).map (·.size)=some 5):=hid (by kernel_rfl)
 clear h hA hnx hm hga hs2 h2 b0 b1
 go_enter Tryz.func20,Tryz.ntmps20
 go_wp2_with (first
  |(go_at_call 63;rw[←HW2.out];refine HN.out.mono ?_;rintro e w3 ⟨⟨a1,n1,c1,rfl,hp3⟩,hb3⟩;have HP3:=hid hp3;have HB3:=hid hb3;clear hp3 hb3)
  |(refine wpList_store_row (by rfl) 41 (.tmp 4) (.tmp 50) (by rfl) (w.heap.size+1) #[.int .i64 0,.int .i64 0,.bool false,.slice a1 n1 c1,.string ⟨#[]⟩] (by rfl) (by rfl) _ _ HB3.out HI5.out rfl (one5 _ _ _ _ _ _ _) ?_;obtain ⟨w4,hw4⟩:∃ w4,w4=w3.setRow (w.heap.size+1) #[.int .i64 0,.int .i64 0,.bool false,.slice a1 n1 c1,.string ⟨#[]⟩]:=⟨_,rfl⟩;rw[←hw4];have hb4:w4.heap[w.heap.size+1]?=some (.cells #[.int .i64 0,.int .i64 0,.bool false,.slice a1 n1 c1,.string ⟨#[]⟩] 41 (0,0)):=(by rw[hw4];exact setRow_heap _ _ _ _ _ _ HB3.out);have HW4:=hid hw4;have HB4:=hid hb4;clear hw4 hb4))
 refine bodyPost_ret (v:=.agg #[.int .i64 0,.int .i64 0,.bool false,.slice a1 n1 c1,.string ⟨#[]⟩]) ?_ rfl ⟨_,rfl,got_fin HX.out HW2.out HP3.out HW4.out ?_⟩
 ·exact results_cell_row Tryz.results20 _ _ (w.heap.size+1) _ _ (0,0) _ rfl HB4.out Tryz.underlying41 rfl HI5.out
 obtain ⟨⟨a,c,h1⟩,h5,h2,h3,h4⟩:=ans_oct HP3.out.ans HP3.out.one
 obtain ⟨rfl,rfl,rfl⟩:a1=a∧n1=_∧c1=c:=by simpa using h1
 exact ⟨a1,c1,by rw[h2,h3,h4];rfl,h5⟩
theorem lget_Text {A:Nat→Addr} {W0 w:World} {F:Nat→Prop} {b:Nat} {s:De.Rd} (h:PrR A W0 F b s w) (hA:ReadsOf A W0) (hnx:∀ l,Top1 s l→l.length≤1000) (tag least most:Int) (hm:inT most) :
  Calls Tryz.prog 20 #[.pointer (some ⟨b,0,none⟩),.agg #[.int .i64 7,.int .i64 tag,.int .i64 least,.int .i64 most]] w fun e w'=>∃ v,e=.returned v∧GotPost A W0 F b s 7 tag least most w w' v:=by
 obtain ⟨W2,hW2⟩:∃ W2,W2=(w.alloc (.cells #[.int .i64 7,.int .i64 tag,.int .i64 least,.int .i64 most] 31)).alloc (.cells #[.int .i64 0,.int .i64 0,.bool false,.slice none 0 0,.string ⟨#[]⟩] 41):=⟨_,rfl⟩
 have hga:w.grownBy W2 none:=by rw[hW2];exact grown_alloc (World.grownBy_alloc _ _ _) _
 have b0:W2.heap[w.heap.size]?=some (.cells #[.int .i64 7,.int .i64 tag,.int .i64 least,.int .i64 most] 31 (0,0)):=by rw[hW2];exact alloc2_old _ _ _
 have b1:W2.heap[w.heap.size+1]?=some (.cells #[.int .i64 0,.int .i64 0,.bool false,.slice none 0 0,.string ⟨#[]⟩] 41 (0,0)):=by rw[hW2];exact alloc2_new _ _ _
 have hs2:W2.heap.size=w.heap.size+2:=by rw[hW2,alloc2_size]
 have c0:=cell_blk b0 0 rfl
 have c1:=cell_blk b0 1 rfl
 have c2:=cell_blk b0 2 rfl
 have c3:=cell_blk b0 3 rfl
 have h2:=h.still hga
 have HN:Hid (Calls Tryz.prog 64 #[.pointer (some ⟨b,0,none⟩),.int .i64 most] W2 fun e w'=>(∃ S1,e=.returned (.string S1)∧AskPost A W0 F b s 7 tag least most W2 w' (.string S1))∧w'.heap[w.heap.size+1]?=some (.cells #[.int .i64 0,.int .i64 0,.bool false,.slice none 0 0,.string ⟨#[]⟩] 41 (0,0))):=hid ((raText h2 hA hnx tag least most hm).mono (fun e w' ⟨v,he,hp⟩=>by
  subst he
  refine ⟨by obtain ⟨h1,_⟩:=ans_text hp.ans hp.one (by decide);exact ⟨_,by rw[h1],by rw[h1] at hp;exact hp⟩,?_⟩
  rw[hp.upto.block _ (by omega) (fun hf=>by have:=(h.own _ hf).2;omega)];exact b1))
 have HX:=hid h
 have HW2:=hid hW2
 have HI5:Hid ((Tryz.prog.info? 41).map (·.size)=some 5):=hid (by kernel_rfl)
 clear h hA hnx hm hga hs2 h2 b0 b1
 go_enter Tryz.func20,Tryz.ntmps20
 go_wp2_with (first
  |(go_at_call 64;rw[←HW2.out];refine HN.out.mono ?_;rintro e w3 ⟨⟨S1,rfl,hp3⟩,hb3⟩;have HP3:=hid hp3;have HB3:=hid hb3;clear hp3 hb3)
  |(refine wpList_store_row (by rfl) 41 (.tmp 4) (.tmp 57) (by rfl) (w.heap.size+1) #[.int .i64 0,.int .i64 0,.bool false,.slice none 0 0,.string S1] (by rfl) (by rfl) _ _ HB3.out HI5.out rfl (one5 _ _ _ _ _ _ _) ?_;obtain ⟨w4,hw4⟩:∃ w4,w4=w3.setRow (w.heap.size+1) #[.int .i64 0,.int .i64 0,.bool false,.slice none 0 0,.string S1]:=⟨_,rfl⟩;rw[←hw4];have hb4:w4.heap[w.heap.size+1]?=some (.cells #[.int .i64 0,.int .i64 0,.bool false,.slice none 0 0,.string S1] 41 (0,0)):=(by rw[hw4];exact setRow_heap _ _ _ _ _ _ HB3.out);have HW4:=hid hw4;have HB4:=hid hb4;clear hw4 hb4))
 refine bodyPost_ret (v:=.agg #[.int .i64 0,.int .i64 0,.bool false,.slice none 0 0,.string S1]) ?_ rfl ⟨_,rfl,got_fin HX.out HW2.out HP3.out HW4.out ?_⟩
 ·exact results_cell_row Tryz.results20 _ _ (w.heap.size+1) _ _ (0,0) _ rfl HB4.out Tryz.underlying41 rfl HI5.out
 obtain ⟨h1,h2,h3,h4⟩:=ans_text HP3.out.ans HP3.out.one (by decide)
 have h1:S1=_:=Value.string.inj h1
 refine ⟨none,0,by rw[h2,h3,h4,←h1];rfl,?_⟩
 rw[h4];exact sup_nil _ _
theorem lget_OID {A:Nat→Addr} {W0 w:World} {F:Nat→Prop} {b:Nat} {s:De.Rd} (h:PrR A W0 F b s w) (hA:ReadsOf A W0) (hnx:∀ l,Top1 s l→l.length≤1000) (tag least most:Int) (hm:inT most) :
  Calls Tryz.prog 20 #[.pointer (some ⟨b,0,none⟩),.agg #[.int .i64 8,.int .i64 tag,.int .i64 least,.int .i64 most]] w fun e w'=>∃ v,e=.returned v∧GotPost A W0 F b s 8 tag least most w w' v:=by
 obtain ⟨W2,hW2⟩:∃ W2,W2=(w.alloc (.cells #[.int .i64 8,.int .i64 tag,.int .i64 least,.int .i64 most] 31)).alloc (.cells #[.int .i64 0,.int .i64 0,.bool false,.slice none 0 0,.string ⟨#[]⟩] 41):=⟨_,rfl⟩
 have hga:w.grownBy W2 none:=by rw[hW2];exact grown_alloc (World.grownBy_alloc _ _ _) _
 have b0:W2.heap[w.heap.size]?=some (.cells #[.int .i64 8,.int .i64 tag,.int .i64 least,.int .i64 most] 31 (0,0)):=by rw[hW2];exact alloc2_old _ _ _
 have b1:W2.heap[w.heap.size+1]?=some (.cells #[.int .i64 0,.int .i64 0,.bool false,.slice none 0 0,.string ⟨#[]⟩] 41 (0,0)):=by rw[hW2];exact alloc2_new _ _ _
 have hs2:W2.heap.size=w.heap.size+2:=by rw[hW2,alloc2_size]
 have c0:=cell_blk b0 0 rfl
 have c1:=cell_blk b0 1 rfl
 have c2:=cell_blk b0 2 rfl
 have c3:=cell_blk b0 3 rfl
 have h2:=h.still hga
 have HN:Hid (Calls Tryz.prog 65 #[.pointer (some ⟨b,0,none⟩)] W2 fun e w'=>(∃ S1,e=.returned (.string S1)∧AskPost A W0 F b s 8 tag least most W2 w' (.string S1))∧w'.heap[w.heap.size+1]?=some (.cells #[.int .i64 0,.int .i64 0,.bool false,.slice none 0 0,.string ⟨#[]⟩] 41 (0,0))):=hid ((raOID h2 hA tag least most).mono (fun e w' ⟨v,he,hp⟩=>by
  subst he
  refine ⟨by obtain ⟨h1,_⟩:=ans_text hp.ans hp.one (by decide);exact ⟨_,by rw[h1],by rw[h1] at hp;exact hp⟩,?_⟩
  rw[hp.upto.block _ (by omega) (fun hf=>by have:=(h.own _ hf).2;omega)];exact b1))
 have HX:=hid h
 have HW2:=hid hW2
 have HI5:Hid ((Tryz.prog.info? 41).map (·.size)=some 5):=hid (by kernel_rfl)
 clear h hA hnx hm hga hs2 h2 b0 b1
 go_enter Tryz.func20,Tryz.ntmps20
 go_wp2_with (first
  |(go_at_call 65;rw[←HW2.out];refine HN.out.mono ?_;rintro e w3 ⟨⟨S1,rfl,hp3⟩,hb3⟩;have HP3:=hid hp3;have HB3:=hid hb3;clear hp3 hb3)
  |(refine wpList_store_row (by rfl) 41 (.tmp 4) (.tmp 62) (by rfl) (w.heap.size+1) #[.int .i64 0,.int .i64 0,.bool false,.slice none 0 0,.string S1] (by rfl) (by rfl) _ _ HB3.out HI5.out rfl (one5 _ _ _ _ _ _ _) ?_;obtain ⟨w4,hw4⟩:∃ w4,w4=w3.setRow (w.heap.size+1) #[.int .i64 0,.int .i64 0,.bool false,.slice none 0 0,.string S1]:=⟨_,rfl⟩;rw[←hw4];have hb4:w4.heap[w.heap.size+1]?=some (.cells #[.int .i64 0,.int .i64 0,.bool false,.slice none 0 0,.string S1] 41 (0,0)):=(by rw[hw4];exact setRow_heap _ _ _ _ _ _ HB3.out);have HW4:=hid hw4;have HB4:=hid hb4;clear hw4 hb4))
 refine bodyPost_ret (v:=.agg #[.int .i64 0,.int .i64 0,.bool false,.slice none 0 0,.string S1]) ?_ rfl ⟨_,rfl,got_fin HX.out HW2.out HP3.out HW4.out ?_⟩
 ·exact results_cell_row Tryz.results20 _ _ (w.heap.size+1) _ _ (0,0) _ rfl HB4.out Tryz.underlying41 rfl HI5.out
 obtain ⟨h1,h2,h3,h4⟩:=ans_text HP3.out.ans HP3.out.one (by decide)
 have h1:S1=_:=Value.string.inj h1
 refine ⟨none,0,by rw[h2,h3,h4,←h1];rfl,?_⟩
 rw[h4];exact sup_nil _ _
theorem lget_Moment {A:Nat→Addr} {W0 w:World} {F:Nat→Prop} {b:Nat} {s:De.Rd} (h:PrR A W0 F b s w) (hA:ReadsOf A W0) (hnx:∀ l,Top1 s l→l.length≤1000) (tag least most:Int) (hm:inT most) :
  Calls Tryz.prog 20 #[.pointer (some ⟨b,0,none⟩),.agg #[.int .i64 9,.int .i64 tag,.int .i64 least,.int .i64 most]] w fun e w'=>∃ v,e=.returned v∧GotPost A W0 F b s 9 tag least most w w' v:=by
 obtain ⟨W2,hW2⟩:∃ W2,W2=(w.alloc (.cells #[.int .i64 9,.int .i64 tag,.int .i64 least,.int .i64 most] 31)).alloc (.cells #[.int .i64 0,.int .i64 0,.bool false,.slice none 0 0,.string ⟨#[]⟩] 41):=⟨_,rfl⟩
 have hga:w.grownBy W2 none:=by rw[hW2];exact grown_alloc (World.grownBy_alloc _ _ _) _
 have b0:W2.heap[w.heap.size]?=some (.cells #[.int .i64 9,.int .i64 tag,.int .i64 least,.int .i64 most] 31 (0,0)):=by rw[hW2];exact alloc2_old _ _ _
 have b1:W2.heap[w.heap.size+1]?=some (.cells #[.int .i64 0,.int .i64 0,.bool false,.slice none 0 0,.string ⟨#[]⟩] 41 (0,0)):=by rw[hW2];exact alloc2_new _ _ _
 have hs2:W2.heap.size=w.heap.size+2:=by rw[hW2,alloc2_size]
 have c0:=cell_blk b0 0 rfl
 have c1:=cell_blk b0 1 rfl
 have c2:=cell_blk b0 2 rfl
 have c3:=cell_blk b0 3 rfl
 have h2:=h.still hga
 have HN:Hid (Calls Tryz.prog 66 #[.pointer (some ⟨b,0,none⟩)] W2 fun e w'=>(∃ n1:Int,e=.returned (.int .i64 n1)∧AskPost A W0 F b s 9 tag least most W2 w' (.int .i64 n1))∧w'.heap[w.heap.size+1]?=some (.cells #[.int .i64 0,.int .i64 0,.bool false,.slice none 0 0,.string ⟨#[]⟩] 41 (0,0))):=hid ((raMoment h2 hA hnx tag least most).mono (fun e w' ⟨v,he,hp⟩=>by
  subst he
  refine ⟨by obtain ⟨h1,_⟩:=ans_num hp.ans hp.one (by decide);exact ⟨_,by rw[h1],by rw[h1] at hp;exact hp⟩,?_⟩
  rw[hp.upto.block _ (by omega) (fun hf=>by have:=(h.own _ hf).2;omega)];exact b1))
 have HX:=hid h
 have HW2:=hid hW2
 have HI5:Hid ((Tryz.prog.info? 41).map (·.size)=some 5):=hid (by kernel_rfl)
 clear h hA hnx hm hga hs2 h2 b0 b1
 go_enter Tryz.func20,Tryz.ntmps20
 go_wp2_with (first
  |(go_at_call 66;rw[←HW2.out];refine HN.out.mono ?_;rintro e w3 ⟨⟨n1,rfl,hp3⟩,hb3⟩;have HP3:=hid hp3;have HB3:=hid hb3;clear hp3 hb3)
  |(refine wpList_store_row (by rfl) 41 (.tmp 4) (.tmp 67) (by rfl) (w.heap.size+1) #[.int .i64 0,.int .i64 n1,.bool false,.slice none 0 0,.string ⟨#[]⟩] (by rfl) (by rfl) _ _ HB3.out HI5.out rfl (one5 _ _ _ _ _ _ _) ?_;obtain ⟨w4,hw4⟩:∃ w4,w4=w3.setRow (w.heap.size+1) #[.int .i64 0,.int .i64 n1,.bool false,.slice none 0 0,.string ⟨#[]⟩]:=⟨_,rfl⟩;rw[←hw4];have hb4:w4.heap[w.heap.size+1]?=some (.cells #[.int .i64 0,.int .i64 n1,.bool false,.slice none 0 0,.string ⟨#[]⟩] 41 (0,0)):=(by rw[hw4];exact setRow_heap _ _ _ _ _ _ HB3.out);have HW4:=hid hw4;have HB4:=hid hb4;clear hw4 hb4))
 refine bodyPost_ret (v:=.agg #[.int .i64 0,.int .i64 n1,.bool false,.slice none 0 0,.string ⟨#[]⟩]) ?_ rfl ⟨_,rfl,got_fin HX.out HW2.out HP3.out HW4.out ?_⟩
 ·exact results_cell_row Tryz.results20 _ _ (w.heap.size+1) _ _ (0,0) _ rfl HB4.out Tryz.underlying41 rfl HI5.out
 obtain ⟨h1,h2,h3,h4⟩:=ans_num HP3.out.ans HP3.out.one (by decide)
 have h1:n1=_:=(Value.int.inj h1).2
 refine ⟨none,0,by rw[h2,h3,h4,←h1];rfl,?_⟩
 rw[h3];exact sup_nil _ _
end Go.Proofs.YtndkifkhdollgaaGreatDoor
