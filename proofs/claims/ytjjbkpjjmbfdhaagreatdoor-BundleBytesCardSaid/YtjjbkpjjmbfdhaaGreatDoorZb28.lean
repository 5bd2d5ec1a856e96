import Derived.Test.YtjjbkpjjmbfdhaaGreatDoorZb01
import Derived.Test.YtjjbkpjjmbfdhaaGreatDoorZb03
import Derived.Test.YtjjbkpjjmbfdhaaGreatDoorZb11
import Derived.Test.YtjjbkpjjmbfdhaaGreatDoorZb20
import Derived.Test.YtjjbkpjjmbfdhaaGreatDoorZb24
import Derived.Test.YtjjbkpjjmbfdhaaGreatDoorZb25
import Derived.Test.YtjjbkpjjmbfdhaaGreatDoorZb27
import Derived.BigQuiet
set_option linter.unusedVariables false
set_option linter.unusedSimpArgs false
set_option maxRecDepth 100000
set_option maxHeartbeats 2000000
namespace Go.Proofs.YtjjbkpjjmbfdhaaGreatDoor
open Lib (hid)
open Go.RowKit
theorem levels_err {l:List Nat} {k:Nat} (h:Tl.levels l=.error k):k≠0:=by
 unfold Tl.levels at h
 split at h
 ·cases h;decide
 ·split at h
  ·rename_i e he
   cases h
   exact De.first_err he
  ·split at h
   ·cases h;decide
   ·exact De.within_err _ _ _ _ h
theorem refDo_raw {W0 w:World} {F:Nat→Prop} {b:Nat} {s:De.St} (h:RefW W0 F b s w) (he:s.e=0) (hsm:∀ k,(levOf s k).length≤1000) (v:Value) (x:De.Val) (hv:ValV w v x) (k11:x.kind=11) (hxl:x.b.length≤1000000) :
  Calls Tryz.prog 47 #[.pointer (some ⟨b,0,none⟩),v] w fun e w'=>e=.returned (.tuple #[])∧Upto F w w'∧RefW W0 (Ext F w w') b (De.step s x) w':=by
 have HX:=hid h
 have HSm:=hid hsm
 have hst:De.step s x=De.raw s x.b:=by unfold De.step;rw[if_neg (by omega),if_neg (by omega),if_neg (by omega),if_pos k11]
 rw[hst]
 obtain ⟨tv,rv,hc,_⟩:=h.body
 have c2:=cell_blk hc 2 rfl
 have f2:=free_blk hc 2
 have hbl:=blk_lt hc
 obtain ⟨bv,S,rfl,hB,h0,_⟩:=hv
 have HB:=hid hB
 have H0:=hid h0
 have hlt:=hid hB.1
 rw[k11]
 obtain ⟨_,va,vsb,vso,vc,rfl,_⟩:=hB
 have hg:w.grownBy (w.alloc (.cells #[.int .i64 11,.int .i64 x.n,.bool x.is,.slice va x.b.length vc,.string S] 86)) none:=World.grownBy_alloc _ _ _
 have HG:=hid hg
 have c2':=World.cell?_alloc_some w ⟨b,2,none⟩ (.cells #[.int .i64 11,.int .i64 x.n,.bool x.is,.slice va x.b.length vc,.string S] 86) (by rw[c2];rfl)
 rw[c2,he] at c2'
 have hbox:(w.alloc (.cells #[.int .i64 11,.int .i64 x.n,.bool x.is,.slice va x.b.length vc,.string S] 86)).heap[w.heap.size]?=_:=alloc_at w _
 have HBox:=hid hbox
 have HR:=hid (refCheck_any _ x.b _ (HB.out.grown hg) (by omega))
 have HLe:Hid (x.b.length≤1000000):=hid hxl
 generalize x.n=nn at *
 generalize x.is=ii at *
 unfold De.raw
 generalize x.b=bs at *
 generalize hbb:bs.length=bb at *
 have HBb:=hid hbb
 cases hp:Tl.levels bs with
 |error q =>
  have hq0:(q:Int)≠0:=by have:=levels_err hp;omega
  rw[hp] at HR
  simp only[WhR] at HR
  clear h hc hg hst hsm hp h0 k11 hbb hbox
  go_enter Tryz.func47,Tryz.ntmps47
  go_wp2_with (go_at_call 98;go_loud (refine HR.out.mono ?_;rintro e w2 ⟨rfl,hg2⟩;have hg3:=grown_trans HG.out hg2;have HG2:=hid hg3;have d2:=(World.cell?_of_block (hg3.block _ hbl (by simp))).trans c2;have e2:=(World.frozen?_of_block (hg3.block _ hbl (by simp))).trans f2;clear hg2 hg3))
  go_returns
  exact ⟨rfl,RefW.after HG2.out ((HX.out.grow HG2.out).err q (by omega))⟩
 |ok m =>
  rw[hp] at HR
  simp only[WhR] at HR
  clear h hc hg hst hsm hp h0 k11 hbb hbox
  go_enter Tryz.func47,Tryz.ntmps47
  go_wp2_with (first
   |(go_at_call 98;refine HR.out.mono ?_;rintro e w2 ⟨rfl,hg2⟩;have hg3:=grown_trans HG.out hg2;have HG2:=hid hg3;have d3:=cell_blk ((hg2.block _ (blk_lt HBox.out) (by simp)).trans HBox.out) 3 rfl;have d3':=World.cell?_alloc_some w2 ⟨w.heap.size,3,none⟩ (.cells #[] 5) (by rw[d3];rfl);rw[d3] at d3';have F0:Hid (FrW w2 (w2.alloc (.cells #[] 5)) (.slice (some ⟨w2.heap.size,0,none⟩) 0 0) []):=hid ⟨World.grownBy_alloc _ _ _,ownsRow_lit (alloc_at w2 _) (Nat.le_refl _) (by simp)⟩;have HB2:=hid (HB.out.grown hg3);clear hg2 hg3)
   |(at_builtin;refine wpList_appB (by rfl) (.tmp 178) (.tmp 180) 27 (by rfl) w2.heap.size 5 (.int .u8 0) 1 Tryz.underlying27 (by kernel_rfl) rfl (by decide) _ 0 (cellsL []) (by rfl) F0.out.own _ bs (by rfl) (HB2.out.grown F0.out.grown) H0.out (by have:=HLe.out;have:=HBb.out;simp;omega) F0.out.le ?_;intro v3 w3 ho3 hg3;have F3:=hid (F0.out.step (l':=[]++bs) ho3 hg3 (cellsL_append _ _).symm);clear ho3 hg3)
   |(go_at_call 99;refine (refAdd_new (HX.out.grow HG2.out) he HSm.out F3.out.grown (own_new F3.out (by simpa using hlt.out))).mono ?_;rintro e w4 ⟨rfl,k1,k2⟩;have K1:=hid k1;have K2:=hid k2;clear k1 k2))
  go_returns
  exact ⟨rfl,RefW.after HG2.out ⟨K1.out,K2.out⟩⟩
structure Lim (m:Nat) (s:De.St):Prop where
 len:∀ k,(levOf s k).length≤m
 big:∀ k,∀ z∈levOf s k,z.length≤70000
 tag:∀ p∈s.op,p.1<256
theorem Lim.zero:Lim 0 De.St.zero:=⟨fun k=>by unfold levOf De.St.zero;split <;> simp,fun k z hz=>by unfold levOf De.St.zero at hz;split at hz <;> simp at hz,by simp[De.St.zero]⟩
theorem Lim.mono {m k:Nat} {s:De.St} (h:Lim m s) (hm:m≤k):Lim k s:=⟨fun j=>Nat.le_trans (h.len j) hm,h.big,h.tag⟩
theorem Lim.err {m:Nat} {s:De.St} (h:Lim m s) (e:Nat):Lim m { s with e:=e }:=⟨h.len,h.big,h.tag⟩
theorem Lim.add {m:Nat} {s:De.St} {l:List Nat} (h:Lim m s) (hl:l.length≤70000):Lim (m+1) (De.add s l):=by
 refine ⟨fun k=>?_,fun k z hz=>?_,fun p hp=>?_⟩
 ·by_cases hk:k≤s.op.length
  ·rw[levOf_add s l k hk]
   have:=h.len k
   split
   ·rw[List.length_append];simp;omega
   ·omega
  ·rw[levOf_far _ (by rw[opLen_add];omega)];simp
 ·by_cases hk:k≤s.op.length
  ·rw[levOf_add s l k hk] at hz
   split at hz
   ·rcases List.mem_append.1 hz with hz|hz
    ·exact h.big k z hz
    ·rw[List.mem_singleton] at hz;rw[hz];exact hl
   ·exact h.big k z hz
  ·rw[levOf_far _ (by rw[opLen_add];omega)] at hz;simp at hz
 ·obtain ⟨e,op,dn⟩:=s
  match op,h with
  |[],h=>simp[De.add] at hp
  |(t,r) :: q,h =>
   rcases List.mem_cons.1 hp with rfl|hp
   ·exact h.tag (t,r) (by simp)
   ·exact h.tag p (by simp[hp])
theorem Lim.put {m:Nat} {s:De.St} {t:Nat} {l:List Nat} (h:Lim m s):Lim (m+1) (De.put s t l):=by
 unfold De.put
 split
 ·exact (h.err 3).mono (by omega)
 ·refine h.add ?_
  have h1:=Tl.more_le l.length
  show ([t]++Tl.lenB l.length++l).length≤70000
  simp only[List.length_append,Tl.lenB_len,List.length_singleton]
  omega
theorem Lim.cls {m:Nat} {s:De.St} (h:Lim m s):Lim (m+1) (De.cls s):=by
 obtain ⟨e,op,dn⟩:=s
 match op,h with
 |[],h=>exact (h.err 24).mono (by omega)
 |(t,l) :: r,h =>
  have hc:=levOf_cls ⟨e,(t,l) :: r,dn⟩ (rfl:(⟨e,(t,l) :: r,dn⟩:De.St).op=(t,l) :: r)
  refine Lim.put (s:=⟨e,r,dn⟩) ⟨fun k=>?_,fun k z hz=>?_,fun p hp=>h.tag p (by simp[hp])⟩
  ·by_cases hk:k≤r.length
   ·have:=hc.1 k hk
    show (levOf ⟨e,r,dn⟩ k).length≤m
    rw[show levOf ⟨e,r,dn⟩ k=levOf ⟨e,(t,l) :: r,dn⟩ k from this];exact h.len k
   ·rw[levOf_far _ (by show r.length<k;omega)];simp
  ·by_cases hk:k≤r.length
   ·have:=hc.1 k hk
    rw[show levOf ⟨e,r,dn⟩ k=levOf ⟨e,(t,l) :: r,dn⟩ k from this] at hz;exact h.big k z hz
   ·rw[levOf_far _ (by show r.length<k;omega)] at hz;simp at hz
theorem Lim.step {m:Nat} {s:De.St} {x:De.Val} (h:Lim m s):Lim (m+1) (De.step s x):=by
 unfold De.step
 split
 ·exact h.mono (by omega)
 split
 ·unfold De.opn
  split
  ·exact (h.err 5).mono (by omega)
  ·rename_i hmade
   split
   ·exact (h.err 6).mono (by omega)
   ·refine ⟨fun k=>?_,fun k z hz=>?_,fun p hp=>?_⟩
    ·by_cases hk:k≤s.op.length+1
     ·have:=levOf_opd s x.n.toNat k hk
      unfold opd at this
      rw[this]
      have:=h.len k
      split
      ·simp
      ·omega
     ·rw[levOf_far _ (by show s.op.length+1<k;omega)];simp
    ·by_cases hk:k≤s.op.length+1
     ·have:=levOf_opd s x.n.toNat k hk
      unfold opd at this
      rw[this] at hz
      split at hz
      ·simp at hz
      ·exact h.big k z hz
     ·rw[levOf_far _ (by show s.op.length+1<k;omega)] at hz;simp at hz
    ·rcases List.mem_cons.1 hp with rfl|hp
     ·have:=Tl.made_nat x.n (by simpa using hmade)
      show x.n.toNat<256
      omega
     ·exact h.tag p hp
 split
 ·exact h.cls
 split
 ·unfold De.raw
  split
  ·exact (h.err _).mono (by omega)
  ·rename_i m' hm'
   refine h.add ?_
   unfold Tl.levels at hm'
   split at hm'
   ·exact absurd hm' (by simp)
   ·omega
 ·unfold De.plainV
  split
  ·exact (h.err _).mono (by omega)
  ·exact h.put
theorem refDo_any {W0 w:World} {F:Nat→Prop} {b m:Nat} {s:De.St} (h:RefW W0 F b s w) (hl:Lim m s) (hm:m≤1000) (v:Value) (x:De.Val) (hv:ValV w v x) (hx:x.b.length≤1000000) :
  Calls Tryz.prog 47 #[.pointer (some ⟨b,0,none⟩),v] w fun e w'=>e=.returned (.tuple #[])∧Upto F w w'∧RefW W0 (Ext F w w') b (De.step s x) w':=by
 have hsm:∀ k,(levOf s k).length≤1000:=fun k=>Nat.le_trans (hl.len k) hm
 by_cases he:s.e=0
 ·by_cases k1:x.kind=1
  ·by_cases hmd:Tl.made x.n=true
   ·by_cases hK:s.op.length<16
    ·exact refDo_open2 h he v x hv k1 hmd hK
    ·exact refDo_open1 h he v x hv k1 (.inr (by omega))
   ·exact refDo_open1 h he v x hv k1 (.inl (by simpa using hmd))
  ·by_cases k2:x.kind=2
   ·cases hop:s.op with
    |nil=>exact refDo_close1 h he v x hv k2 hop
    |cons p r =>
     obtain ⟨t,l⟩:=p
     exact refDo_close2 h he hsm hl.big v x hv k2 hop (hl.tag (t,l) (by rw[hop];simp))
   ·by_cases k11:x.kind=11
    ·exact refDo_raw h he hsm v x hv k11 hx
    ·exact refDo_plain h he hsm v x hv k1 k2 k11
 ·have hst:De.step s x=s:=by unfold De.step;rw[if_pos he]
  rw[hst]
  exact refDo_err h he v x hv
def ImM (W0:World) (F M:Nat→Prop) (k:Nat):Prop:=Or0 W0 F k∧¬ M k
def MutP (b:Nat) (ov dv:Value) (n:Nat) (pv:Nat→Value) (k:Nat):Prop:=k=b∨ov.ownBlock=some k∨dv.ownBlock=some k∨∃ j,j<n∧(pv j).ownBlock=some k
theorem imM_keep {W0 w w':World} {F M M':Nat→Prop} {P:World→Prop} (hb:W0.grownBy w none) (hF:∀ k,F k→W0.heap.size≤k∧k<w.heap.size) (h:Sup (ImM W0 F M) w P) (hu:Upto M w w')
  (hr:∀ k,k<w.heap.size→M' k→M k):Sup (ImM W0 (Ext F w w') M') w' P:=by
 have h1:Sup (ImM W0 F M) w' P:=h.upto hu (fun k hk hm=>hk.2 hm)
 refine h1.mono (fun k hk=>⟨hk.1.imp (fun h=>.inl h) id,fun hm=>hk.2 (hr k (h.lt k hk) hm)⟩) (fun k hk=>?_)
 have:=hb.size
 have:=hu.size
 rcases hk.1 with h2|h2
 ·exact (ext_own hb hF hu.size k h2).2
 ·omega
def Parts (I:Nat→Prop) (w:World) (v:Value) (L:List (List Nat)):Prop:=∃ ys,w.ownsRow 0 27 1 v ys.length ys∧Sup I w (fun W=>Each W ys L)
structure PwR (W0:World) (F:Nat→Prop) (b:Nat) (ov dv:Value) (n:Nat) (pv:Nat→Value) (s:De.St) (w:World):Prop where
 len:n=s.op.length
 deep:n≤16
 mine:∀ k,MutP b ov dv n pv k→F k
 rov:ov.ownBlock≠some b
 rdv:dv.ownBlock≠some b
 rpv:∀ j,j<n→(pv j).ownBlock≠some b
 apart:∀ i j,i<n→j<n→i≠j→∀ k,(pv i).ownBlock=some k→(pv j).ownBlock≠some k
 opens:∃ xs,w.ownsRow 0 97 2 ov n xs∧∀ j,j<n→xs[2*j]?=some (.int .i64 ((tagsOf s).getD j 0))∧xs[2*j+1]?=some (pv j)
 dones:w.ownsRow 0 5 1 dv s.dn.flatten.length (cellsL s.dn.flatten)
 dlt:∀ x∈s.dn.flatten,x<256
 parts:∀ j,j<n→Parts (ImM W0 F (MutP b ov dv n pv)) w (pv j) (levOf s (j+1))
structure PrW (A:Nat→Addr) (W0:World) (F:Nat→Prop) (b:Nat) (s:De.St) (w:World):Prop where
 base:W0.grownBy w none
 own:∀ k,F k→W0.heap.size≤k∧k<w.heap.size
 mem:F b
 body:∃ ov dv,w.heap[b]?=some (.cells #[ov,dv,errOf A s.e] 52 (0,0))∧(s.e=0→∃ n pv,PwR W0 F b ov dv n pv s w)
theorem own_upto {w w':World} {M:Nat→Prop} {base:Nat} {e:TypeId} {sz:Nat} {v:Value} {n:Nat} {xs:List Value} (h:w.ownsRow base e sz v n xs) (hu:Upto M w w') (hm:∀ k,v.ownBlock=some k→¬ M k):w'.ownsRow base e sz v n xs:=by
 refine ⟨h.1,?_⟩
 rcases h.2 with h1|⟨g,cap,cur,rfl,h2,h3,h4⟩
 ·exact .inl h1
 ·exact .inr ⟨g,cap,cur,rfl,h2,(hu.block g (blk_lt h3) (hm g rfl)).trans h3,h4⟩
section
variable {A:Nat→Addr} {W0 w w':World} {F:Nat→Prop} {b:Nat} {ov dv:Value} {n:Nat} {pv:Nat→Value} {s:De.St}
theorem Parts.keep {M M' T:Nat→Prop} {v:Value} {L:List (List Nat)} (hb:W0.grownBy w none) (hF:∀ k,F k→W0.heap.size≤k∧k<w.heap.size) (h:Parts (ImM W0 F M) w v L) (hu:Upto T w w') (hT:∀ k,T k→M k)
  (hr:∀ k,k<w.heap.size→M' k→M k) (hv:∀ k,v.ownBlock=some k→¬ T k):Parts (ImM W0 (Ext F w w') M') w' v L:=by
 obtain ⟨ys,h1,h2⟩:=h
 exact ⟨ys,own_upto h1 hu hv,imM_keep hb hF h2 (hu.mono (fun k _ hk=>hT k hk)) hr⟩
theorem PrW.iff (h:PrW A W0 F b s w) {G:Nat→Prop} (hG:∀ k,G k↔F k):PrW A W0 G b s w:=by
 have e:G=F:=funext fun k=>propext (hG k)
 rw[e];exact h
theorem PwR.ov_dv (h:PwR W0 F b ov dv n pv s w) {k:Nat} (hk:ov.ownBlock=some k):dv.ownBlock≠some k:=by
 obtain ⟨xs,h1,_⟩:=h.opens
 exact rows_unlike h1 h.dones (by decide) hk
theorem PwR.ov_pv (h:PwR W0 F b ov dv n pv s w) {k:Nat} (hk:ov.ownBlock=some k) {j:Nat} (hj:j<n):(pv j).ownBlock≠some k:=by
 obtain ⟨xs,h1,_⟩:=h.opens
 obtain ⟨ys,h2,_⟩:=h.parts j hj
 exact rows_unlike h1 h2 (by decide) hk
theorem PwR.dv_pv (h:PwR W0 F b ov dv n pv s w) {k:Nat} (hk:dv.ownBlock=some k) {j:Nat} (hj:j<n):(pv j).ownBlock≠some k:=by
 obtain ⟨ys,h2,_⟩:=h.parts j hj
 exact rows_unlike h.dones h2 (by decide) hk
theorem PwR.other {G:Nat→Prop} (hb:W0.grownBy w none) (h:PwR W0 F b ov dv n pv s w) (hG:∀ k,G k→W0.heap.size≤k) (hu:Upto G w w') (ha:Apart G F):PwR W0 F b ov dv n pv s w':=by
 have hm:∀ k,MutP b ov dv n pv k→¬ G k:=fun k hk hg=>ha k hg (h.mine k hk)
 have hi:∀ k,ImM W0 F (MutP b ov dv n pv) k→¬ G k:=fun k hk hg=>by
  rcases hk.1 with hf|hl
  ·exact ha k hg hf
  ·have:=hG k hg;omega
 obtain ⟨xs,h1,h2⟩:=h.opens
 refine ⟨h.len,h.deep,h.mine,h.rov,h.rdv,h.rpv,h.apart,⟨xs,own_upto h1 hu (fun k hk=>hm k (.inr (.inl hk))),h2⟩,own_upto h.dones hu (fun k hk=>hm k (.inr (.inr (.inl hk)))),h.dlt,fun j hj=>?_⟩
 obtain ⟨ys,k1,k2⟩:=h.parts j hj
 exact ⟨ys,own_upto k1 hu (fun k hk=>hm k (.inr (.inr (.inr ⟨j,hj,hk⟩)))),k2.upto hu hi⟩
theorem PrW.other {G G':Nat→Prop} (h:PrW A W0 F b s w) (hG:∀ k,G k→W0.heap.size≤k) (ht:Turn G G' w w') (ha:Apart G F):PrW A W0 F b s w':=by
 obtain ⟨ov,dv,h1,h2⟩:=h.body
 refine ⟨ht.upto.base h.base hG,fun k hk=>⟨(h.own k hk).1,Nat.lt_of_lt_of_le (h.own k hk).2 ht.upto.size⟩,h.mem,ov,dv,?_,fun he=>?_⟩
 ·rw[ht.upto.block b (h.own b h.mem).2 (fun hg=>ha b hg h.mem)];exact h1
 ·obtain ⟨n,pv,hR⟩:=h2 he
  exact ⟨n,pv,hR.other h.base hG ht.upto ha⟩
theorem PrW.still (h:PrW A W0 F b s w) (hg:w.grownBy w' none):PrW A W0 F b s w' :=
 h.other (G:=fun _=>False) (G':=fun _=>False) (fun _ h=>h.elim) (Turn.of_grown hg) (fun _ h=>h.elim)
theorem PwR.wide {G:Nat→Prop} (hb:W0.grownBy w none) (h:PwR W0 F b ov dv n pv s w) (hFG:∀ k,F k→G k) (hG:∀ k,G k→W0.heap.size≤k∧k<w.heap.size):PwR W0 G b ov dv n pv s w:=by
 refine ⟨h.len,h.deep,fun k hk=>hFG k (h.mine k hk),h.rov,h.rdv,h.rpv,h.apart,h.opens,h.dones,h.dlt,fun j hj=>?_⟩
 obtain ⟨ys,k1,k2⟩:=h.parts j hj
 refine ⟨ys,k1,k2.mono (fun k hk=>⟨hk.1.imp (hFG k) id,hk.2⟩) (fun k hk=>?_)⟩
 rcases hk.1 with hk|hk
 ·exact (hG k hk).2
 ·exact Nat.lt_of_lt_of_le hk hb.size
theorem PrW.wide {G:Nat→Prop} (h:PrW A W0 F b s w) (hFG:∀ k,F k→G k) (hG:∀ k,G k→W0.heap.size≤k∧k<w.heap.size):PrW A W0 G b s w:=by
 obtain ⟨ov,dv,h1,h2⟩:=h.body
 refine ⟨h.base,hG,hFG b h.mem,ov,dv,h1,fun he=>?_⟩
 obtain ⟨n,pv,hR⟩:=h2 he
 exact ⟨n,pv,hR.wide h.base hFG hG⟩
theorem PrW.grow (h:PrW A W0 F b s w) (hg:w.grownBy w' none):PrW A W0 (Ext F w w') b s w' :=
 (h.still hg).wide (fun k hk=>.inl hk) (ext_own h.base h.own hg.size)
theorem PrW.join {w5:World} {s':De.St} (hb:W0.grownBy w none) (hF:∀ k,F k→W0.heap.size≤k∧k<w.heap.size) (hu:Upto F w w5) (h:Upto F w5 w'∧PrW A W0 (Ext F w5 w') b s' w'):Upto F w w'∧PrW A W0 (Ext F w w') b s' w':=by
 have h1:=h.1.size
 have h2:=hu.size
 refine ⟨hu.trans h.1 (fun k hk hf=>hf),h.2.wide (fun k hk=>?_) (ext_own hb hF (by omega))⟩
 rcases hk with hk|hk
 ·exact .inl hk
 ·exact .inr (by omega)
theorem PrW.join2 {w5:World} {s' s5:De.St} (h:PrW A W0 F b s w) (h5:Upto F w w5∧PrW A W0 (Ext F w w5) b s5 w5) (h6:Upto (Ext F w w5) w5 w'∧PrW A W0 (Ext (Ext F w w5) w5 w') b s' w'):Upto F w w'∧PrW A W0 (Ext F w w') b s' w':=by
 have h1:=h5.1.size
 have h2:=h6.1.size
 refine ⟨h5.1.trans h6.1 (fun k hk hf=>?_),h6.2.iff (fun k=>(Ext.trans h1 h2 k).symm)⟩
 rcases hf with hf|hf
 ·exact hf
 ·omega
theorem PrW.err (h:PrW A W0 F b s w) (m:Nat) (hm:m≠0):Upto F w (w.setCell ⟨b,2,none⟩ (errV A m))∧PrW A W0 (Ext F w (w.setCell ⟨b,2,none⟩ (errV A m))) b { s with e:=m } (w.setCell ⟨b,2,none⟩ (errV A m)):=by
 obtain ⟨ov,dv,h1,_⟩:=h.body
 have hs:(w.setCell ⟨b,2,none⟩ (errV A m)).heap.size=w.heap.size:=setCell_size _ _ _
 have hu:Upto F w (w.setCell ⟨b,2,none⟩ (errV A m)):=⟨rfl,rfl,rfl,by omega,fun k hk hmu=>Below.heap_setCell _ _ _ _ (fun e=>hmu (by rw[e];exact h.mem))⟩
 refine ⟨hu,hu.base h.base (fun k hk=>(h.own k hk).1),ext_own h.base h.own hu.size,.inl h.mem,ov,dv,?_,fun he=>absurd he hm⟩
 have:=setCell_heap (i:=2) h1 (errV A m)
 unfold errOf
 rw[if_neg hm]
 simpa using this
end
theorem cell_upto {w:World} {b i:Nat} {v:Value} {M:Nat→Prop} (hm:M b):Upto M w (w.setCell ⟨b,i,none⟩ v) :=
 ⟨rfl,rfl,rfl,by rw[setCell_size];exact Nat.le_refl _,fun k hk hmu=>Below.heap_setCell _ _ _ _ (fun e=>hmu (by rw[e];exact hm))⟩
theorem tags_len (s:De.St):(tagsOf s).length=s.op.length:=tagsOf_len s
section
variable {A:Nat→Addr} {W0 w w1 w2 w':World} {F:Nat→Prop} {b:Nat} {ov dv v':Value} {n:Nat} {pv:Nat→Value} {s:De.St}
theorem PwR.lt (hF:∀ k,F k→W0.heap.size≤k∧k<w.heap.size) (h:PwR W0 F b ov dv n pv s w):∀ k,MutP b ov dv n pv k→k<w.heap.size:=fun k hk=>(hF k (h.mine k hk)).2
theorem PwR.opened {t:Nat} {xs:List Value} (hb:W0.grownBy w none) (hF:∀ k,F k→W0.heap.size≤k∧k<w.heap.size) (hm:F b) (he:s.e=0) (hc:w.heap[b]?=some (.cells #[ov,dv,.nilIface] 52 (0,0)))
  (h:PwR W0 F b ov dv n pv s w) (hn:n<16) (hxs:w.ownsRow 0 97 2 ov n xs) (hxj:∀ j,j<n→xs[2*j]?=some (.int .i64 ((tagsOf s).getD j 0))∧xs[2*j+1]?=some (pv j))
  (h1:w.grownBy w1 none) (ho:w2.ownsRow 0 97 2 v' (n+1) (xs++[.int .i64 (t:Int),.slice none 0 0])) (hg:w1.grownBy w2 ov.ownBlock) (hv:v'.ownBlock=ov.ownBlock∨v'.ownBlock=some w1.heap.size) :
  Upto F w (w2.setCell ⟨b,0,none⟩ v')∧PrW A W0 (Ext F w (w2.setCell ⟨b,0,none⟩ v')) b (opd s t) (w2.setCell ⟨b,0,none⟩ v'):=by
 have hs1:=h1.size
 have hs2:=hg.size
 have hs3:(w2.setCell ⟨b,0,none⟩ v').heap.size=w2.heap.size:=setCell_size _ _ _
 have hbl:=(hF b hm).2
 have hbv:v'.ownBlock≠some b:=fun e=>by
  rcases hv with h'|h'
  ·rw[h'] at e;exact h.rov e
  ·rw[h'] at e;have:=Option.some.inj e;omega
 have hT:Upto (fun k=>k=b∨ov.ownBlock=some k) w (w2.setCell ⟨b,0,none⟩ v') :=
  ((Upto.of_grown _ h1).trans (Upto.of_row hg (fun k hk=>.inl (.inr hk))) (fun _ _ h=>h)).trans (cell_upto (.inl rfl)) (fun _ _ h=>h)
 have hTM:∀ k,(k=b∨ov.ownBlock=some k)→MutP b ov dv n pv k:=fun k hk=>by
  rcases hk with hk|hk
  ·exact .inl hk
  ·exact .inr (.inl hk)
 have hu:Upto F w (w2.setCell ⟨b,0,none⟩ v'):=hT.mono (fun k _ hk=>h.mine k (hTM k hk))
 obtain ⟨pw,hpw⟩:∃ pw:Nat→Value,pw=fun j=>if j=n then .slice none 0 0 else pv j:=⟨_,rfl⟩
 have hpo:∀ j,j<n→pw j=pv j:=fun j hj=>by rw[hpw];exact if_neg (by omega)
 have hpn:pw n=.slice none 0 0:=by rw[hpw];exact if_pos rfl
 have hcame:∀ k,k<w.heap.size→MutP b v' dv (n+1) pw k→MutP b ov dv n pv k:=fun k hk hmu=>by
  rcases hmu with hmu|hmu|hmu|⟨j,hj,hmu⟩
  ·exact .inl hmu
  ·rcases hv with h'|h'
   ·exact .inr (.inl (h' ▸ hmu))
   ·rw[h'] at hmu;have:=Option.some.inj hmu;omega
  ·exact .inr (.inr (.inl hmu))
  ·by_cases e:j=n
   ·rw[e,hpn] at hmu;exact absurd hmu (by simp[Value.ownBlock])
   ·rw[hpo j (by omega)] at hmu;exact .inr (.inr (.inr ⟨j,by omega,hmu⟩))
 have hown2:=own_setCell (i:=0) (u:=v') ho hbv
 refine ⟨hu,hu.base hb (fun k hk=>(hF k hk).1),ext_own hb hF hu.size,.inl hm,v',dv,?_,fun _=>⟨n+1,pw,by rw[h.len];rfl,by omega,fun k hk=>?_,hbv,h.rdv,fun j hj=>?_,fun i j hi hj hij k hk=>?_,⟨_,hown2,fun j hj=>?_⟩,own_upto h.dones hT (fun k hk hmu=>?_),h.dlt,fun j hj=>?_⟩⟩
 ·have hc2:=(hg.block b (by omega) (fun e=>h.rov e.symm)).trans ((h1.block b hbl (by simp)).trans hc)
  have:=setCell_heap (i:=0) hc2 v'
  unfold errOf
  rw[show (opd s t).e=0 from he,if_pos rfl]
  simpa using this
 ·by_cases hkl:k<w.heap.size
  ·exact .inl (h.mine k (hcame k hkl hk))
  ·refine .inr ⟨by omega,?_⟩
   rcases hk with hk|hk|hk|⟨j,hj,hk⟩
   ·omega
   ·exact own_lt hown2 hk
   ·have:=h.lt hF k (.inr (.inr (.inl hk)));omega
   ·by_cases e:j=n
    ·rw[e,hpn] at hk;exact absurd hk (by simp[Value.ownBlock])
    ·rw[hpo j (by omega)] at hk
     have:=h.lt hF k (.inr (.inr (.inr ⟨j,by omega,hk⟩)));omega
 ·by_cases e:j=n
  ·rw[e,hpn];simp[Value.ownBlock]
  ·rw[hpo j (by omega)];exact h.rpv j (by omega)
 ·by_cases ei:i=n
  ·rw[ei,hpn] at hk;exact absurd hk (by simp[Value.ownBlock])
  ·by_cases ej:j=n
   ·rw[ej,hpn];simp[Value.ownBlock]
   ·rw[hpo i (by omega)] at hk
    rw[hpo j (by omega)]
    exact h.apart i j (by omega) (by omega) hij k hk
 ·have hxl:xs.length=n*2:=hxs.1
  by_cases e:j=n
  ·subst e
   rw[hpn,tagsOf_opd]
   refine ⟨?_,?_⟩
   ·rw[List.getElem?_append_right (by omega),hxl,show 2*j-j*2=0 by omega,List.getD_eq_getElem?_getD,List.getElem?_append_right (by rw[tags_len,h.len];exact Nat.le_refl _),tags_len,h.len]
    simp
   ·rw[List.getElem?_append_right (by omega),hxl,show 2*j+1-j*2=1 by omega]
    rfl
  ·rw[hpo j (by omega),tagsOf_opd,List.getElem?_append_left (by omega),List.getElem?_append_left (by omega),List.getD_eq_getElem?_getD,List.getElem?_append_left (by rw[tags_len,←h.len];omega),←List.getD_eq_getElem?_getD]
   exact hxj j (by omega)
 ·rcases hmu with rfl|hmu
  ·exact h.rdv hk
  ·exact h.ov_dv hmu hk
 ·by_cases e:j=n
  ·rw[e,hpn,h.len,levOf_opd s t _ (by omega),if_pos rfl]
   refine ⟨[],⟨rfl,.inl ⟨rfl,rfl⟩⟩,fun k hk=>?_,fun _ _=>trivial⟩
   have:=hu.size
   have:=hb.size
   rcases hk.1 with hk|hk
   ·exact (ext_own hb hF hu.size k hk).2
   ·omega
  ·rw[hpo j (by omega),levOf_opd s t _ (by rw[←h.len];omega),if_neg (by rw[←h.len];omega)]
   exact (h.parts j (by omega)).keep hb hF hT hTM hcame (fun k hk hmu=>by
    rcases hmu with rfl|hmu
    ·exact h.rpv j (by omega) hk
    ·exact h.ov_pv hmu (by omega) hk)
theorem PwR.closed {t g c:Nat} {l:List (List Nat)} {r:List (Nat×List (List Nat))} (hb:W0.grownBy w none) (hF:∀ k,F k→W0.heap.size≤k∧k<w.heap.size) (hm:F b) (he:s.e=0) (hop:s.op=(t,l) :: r)
  (hc:w.heap[b]?=some (.cells #[.slice (some ⟨g,0,none⟩) n c,dv,.nilIface] 52 (0,0))) (h:PwR W0 F b (.slice (some ⟨g,0,none⟩) n c) dv n pv s w) :
  Upto F w (w.setCell ⟨b,0,none⟩ (.slice (some ⟨g,0,none⟩) r.length c))∧PrW A W0 F b { s with op:=r } (w.setCell ⟨b,0,none⟩ (.slice (some ⟨g,0,none⟩) r.length c)) ∧
   Parts (ImM W0 F (MutP b (.slice (some ⟨g,0,none⟩) n c) dv n pv)) (w.setCell ⟨b,0,none⟩ (.slice (some ⟨g,0,none⟩) r.length c)) (pv r.length) l:=by
 have hnr:n=r.length+1:=by rw[h.len,hop];rfl
 have hT:Upto (fun k=>k=b) w (w.setCell ⟨b,0,none⟩ (.slice (some ⟨g,0,none⟩) r.length c)):=cell_upto rfl
 have hu:Upto F w (w.setCell ⟨b,0,none⟩ (.slice (some ⟨g,0,none⟩) r.length c)):=hT.mono (fun k _ hk=>by rw[hk];exact hm)
 have hs:(w.setCell ⟨b,0,none⟩ (.slice (some ⟨g,0,none⟩) r.length c)).heap.size=w.heap.size:=setCell_size _ _ _
 have hcame:∀ k,MutP b (.slice (some ⟨g,0,none⟩) r.length c) dv r.length pv k→MutP b (.slice (some ⟨g,0,none⟩) n c) dv n pv k:=fun k hmu=>by
  rcases hmu with hmu|hmu|hmu|⟨j,hj,hmu⟩
  ·exact .inl hmu
  ·exact .inr (.inl hmu)
  ·exact .inr (.inr (.inl hmu))
  ·exact .inr (.inr (.inr ⟨j,by omega,hmu⟩))
 have hpk:∀ j,j<n→Parts (ImM W0 F (MutP b (.slice (some ⟨g,0,none⟩) n c) dv n pv)) (w.setCell ⟨b,0,none⟩ (.slice (some ⟨g,0,none⟩) r.length c)) (pv j) (levOf s (j+1)):=fun j hj=>by
  obtain ⟨ys,k1,k2⟩:=h.parts j hj
  exact ⟨ys,own_upto k1 hT (fun k hk e=>h.rpv j hj (e ▸ hk)),k2.upto hT (fun k hk e=>hk.2 (.inl e))⟩
 obtain ⟨xs,hx1,hx2⟩:=h.opens
 have hlc:=levOf_cls s hop
 have htc:=tagsOf_cls s hop
 refine ⟨hu,⟨hu.base hb (fun k hk=>(hF k hk).1),fun k hk=>by rw[hs];exact hF k hk,hm,.slice (some ⟨g,0,none⟩) r.length c,dv,?_,fun _=>⟨r.length,pv,rfl,by have:=h.deep;omega,fun k hk=>h.mine k (hcame k hk),h.rov,h.rdv,fun j hj=>h.rpv j (by omega),fun i j hi hj=>h.apart i j (by omega) (by omega),⟨xs.take (r.length*2),own_upto (own_take hx1 (by omega)) hT (fun k hk e=>h.rov (e ▸ hk)),fun j hj=>?_⟩,own_upto h.dones hT (fun k hk e=>h.rdv (e ▸ hk)),h.dlt,fun j hj=>?_⟩⟩,?_⟩
 ·have:=setCell_heap (i:=0) hc (.slice (some ⟨g,0,none⟩) r.length c)
  unfold errOf
  rw[show ({ s with op:=r }:De.St).e=0 from he,if_pos rfl]
  simpa using this
 ·have h3:=hx2 j (by omega)
  rw[htc,List.getD_eq_getElem?_getD,List.getElem?_append_left (by rw[tags_len];exact hj),←List.getD_eq_getElem?_getD] at h3
  rw[List.getElem?_take,List.getElem?_take,if_pos (by omega),if_pos (by omega)]
  exact h3
 ·rw[hlc.1 (j+1) (by omega)]
  obtain ⟨ys,k1,k2⟩:=hpk j (by omega)
  refine ⟨ys,k1,k2.mono (fun k hk=>⟨hk.1,fun hmu=>hk.2 (hcame k hmu)⟩) (fun k hk=>?_)⟩
  rw[hs]
  rcases hk.1 with hk|hk
  ·exact (hF k hk).2
  ·exact Nat.lt_of_lt_of_le hk hb.size
 ·have:=hpk r.length (by omega)
  rwa [hlc.2] at this
theorem dn_add_in (s:De.St) (l:List Nat) (h:0<s.op.length):(De.add s l).dn=s.dn:=by
 obtain ⟨e,op,dn⟩:=s
 match op with
 |[]=>simp at h
 |(t,r) :: q=>rfl
theorem dn_add_out (s:De.St) (l:List Nat) (h:s.op.length=0):(De.add s l).dn=s.dn++[l]∧(De.add s l).op=s.op:=by
 obtain ⟨e,op,dn⟩:=s
 match op with
 |[]=>exact ⟨rfl,rfl⟩
 |(t,r) :: q=>simp at h
theorem PwR.added0 {l:List Nat} (hb:W0.grownBy w none) (hF:∀ k,F k→W0.heap.size≤k∧k<w.heap.size) (hm:F b) (he:s.e=0) (h0:n=0) (hc:w.heap[b]?=some (.cells #[ov,dv,.nilIface] 52 (0,0)))
  (h:PwR W0 F b ov dv n pv s w) (hl:∀ x∈l,x<256) (h1:w.grownBy w1 none) (ho:w2.ownsRow 0 5 1 v' (s.dn.flatten.length+l.length) (cellsL s.dn.flatten++cellsL l)) (hg:w1.grownBy w2 dv.ownBlock) (hv:v'.ownBlock=dv.ownBlock∨v'.ownBlock=some w1.heap.size) :
  Upto F w (w2.setCell ⟨b,1,none⟩ v')∧PrW A W0 (Ext F w (w2.setCell ⟨b,1,none⟩ v')) b (De.add s l) (w2.setCell ⟨b,1,none⟩ v'):=by
 subst h0
 have hs1:=h1.size
 have hs2:=hg.size
 have hs3:(w2.setCell ⟨b,1,none⟩ v').heap.size=w2.heap.size:=setCell_size _ _ _
 have hbl:=(hF b hm).2
 have hop0:s.op.length=0:=h.len.symm
 obtain ⟨hdn,hop⟩:=dn_add_out s l hop0
 have hbv:v'.ownBlock≠some b:=fun e=>by
  rcases hv with h'|h'
  ·rw[h'] at e;exact h.rdv e
  ·rw[h'] at e;have:=Option.some.inj e;omega
 have hT:Upto (fun k=>k=b∨dv.ownBlock=some k) w (w2.setCell ⟨b,1,none⟩ v') :=
  ((Upto.of_grown _ h1).trans (Upto.of_row hg (fun k hk=>.inl (.inr hk))) (fun _ _ h=>h)).trans (cell_upto (.inl rfl)) (fun _ _ h=>h)
 have hTM:∀ k,(k=b∨dv.ownBlock=some k)→MutP b ov dv 0 pv k:=fun k hk=>by
  rcases hk with hk|hk
  ·exact .inl hk
  ·exact .inr (.inr (.inl hk))
 have hu:Upto F w (w2.setCell ⟨b,1,none⟩ v'):=hT.mono (fun k _ hk=>h.mine k (hTM k hk))
 have hown2:=own_setCell (i:=1) (u:=v') ho hbv
 obtain ⟨xs,hx1,hx2⟩:=h.opens
 refine ⟨hu,hu.base hb (fun k hk=>(hF k hk).1),ext_own hb hF hu.size,.inl hm,ov,v',?_,fun _=>⟨0,pv,by rw[hop];exact h.len,h.deep,fun k hk=>?_,h.rov,hbv,fun j hj=>absurd hj (by omega),fun i j hi=>absurd hi (by omega),⟨xs,own_upto hx1 hT (fun k hk hmu=>?_),fun j hj=>absurd hj (by omega)⟩,?_,fun x hx=>?_,fun j hj=>absurd hj (by omega)⟩⟩
 ·have hc2:=(hg.block b (by omega) (fun e=>h.rdv e.symm)).trans ((h1.block b hbl (by simp)).trans hc)
  have:=setCell_heap (i:=1) hc2 v'
  unfold errOf
  rw[e_add,he,if_pos rfl]
  simpa using this
 ·rcases hk with hk|hk|hk|⟨j,hj,hk⟩
  ·exact .inl (hk ▸ hm)
  ·exact .inl (h.mine k (.inr (.inl hk)))
  ·rcases hv with h'|h'
   ·exact .inl (h.mine k (.inr (.inr (.inl (h' ▸ hk)))))
   ·have h2:=own_lt hown2 hk
    rw[h'] at hk;have:=Option.some.inj hk
    exact .inr ⟨by omega,h2⟩
  ·omega
 ·rcases hmu with rfl|hmu
  ·exact h.rov hk
  ·exact h.ov_dv hk hmu
 ·rw[hdn,List.flatten_append,List.length_append,cellsL_append]
  simpa using hown2
 ·rw[hdn,List.flatten_append,List.mem_append] at hx
  rcases hx with hx|hx
  ·exact h.dlt x hx
  ·exact hl x (by simpa using hx)
theorem PwR.added1 {l:List Nat} {g c m:Nat} {x:Value} {ys:List Value} (hb:W0.grownBy w none) (hF:∀ k,F k→W0.heap.size≤k∧k<w.heap.size) (hm:F b) (he:s.e=0) (hn:n=m+1) (hc:w.heap[b]?=some (.cells #[.slice (some ⟨g,0,none⟩) n c,dv,.nilIface] 52 (0,0)))
  (h:PwR W0 F b (.slice (some ⟨g,0,none⟩) n c) dv n pv s w) (hys:w.ownsRow 0 27 1 (pv m) ys.length ys) (hyE:Sup (ImM W0 F (MutP b (.slice (some ⟨g,0,none⟩) n c) dv n pv)) w (fun W=>Each W ys (levOf s n)))
  (hx:Sup (ImM W0 F (MutP b (.slice (some ⟨g,0,none⟩) n c) dv n pv)) w (fun W=>Bytes W x l∧Whole0 x))
  (h1:w.grownBy w1 none) (ho:w2.ownsRow 0 27 1 v' (ys.length+1) (ys++[x])) (hg:w1.grownBy w2 (pv m).ownBlock) (hv:v'.ownBlock=(pv m).ownBlock∨v'.ownBlock=some w1.heap.size) :
  Upto F w (w2.setCell ⟨g,2*m+1,none⟩ v')∧PrW A W0 (Ext F w (w2.setCell ⟨g,2*m+1,none⟩ v')) b (De.add s l) (w2.setCell ⟨g,2*m+1,none⟩ v'):=by
 have hs1:=h1.size
 have hs2:=hg.size
 have hs3:(w2.setCell ⟨g,2*m+1,none⟩ v').heap.size=w2.heap.size:=setCell_size _ _ _
 have hbl:=(hF b hm).2
 have hgl:g<w.heap.size:=h.lt hF g (.inr (.inl rfl))
 have hgb:g≠b:=fun e=>h.rov (by rw[e];rfl)
 have hgp:∀ j,j<n→(pv j).ownBlock≠some g:=fun j hj=>h.ov_pv rfl hj
 have hgv:v'.ownBlock≠some g:=fun e=>by
  rcases hv with h'|h'
  ·rw[h'] at e;exact hgp m (by omega) e
  ·rw[h'] at e;have:=Option.some.inj e;omega
 have hT:Upto (fun k=>k=g∨(pv m).ownBlock=some k) w (w2.setCell ⟨g,2*m+1,none⟩ v') :=
  ((Upto.of_grown _ h1).trans (Upto.of_row hg (fun k hk=>.inl (.inr hk))) (fun _ _ h=>h)).trans (cell_upto (.inl rfl)) (fun _ _ h=>h)
 have hTM:∀ k,(k=g∨(pv m).ownBlock=some k)→MutP b (.slice (some ⟨g,0,none⟩) n c) dv n pv k:=fun k hk=>by
  rcases hk with hk|hk
  ·exact .inr (.inl (by rw[hk];rfl))
  ·exact .inr (.inr (.inr ⟨m,by omega,hk⟩))
 have hu:Upto F w (w2.setCell ⟨g,2*m+1,none⟩ v'):=hT.mono (fun k _ hk=>h.mine k (hTM k hk))
 obtain ⟨pw,hpw⟩:∃ pw:Nat→Value,pw=fun j=>if j=m then v' else pv j:=⟨_,rfl⟩
 have hpo:∀ j,j≠m→pw j=pv j:=fun j hj=>by rw[hpw];exact if_neg hj
 have hpm:pw m=v':=by rw[hpw];exact if_pos rfl
 have hown2:=own_setCell (i:=2*m+1) (u:=v') ho hgv
 have hcame:∀ k,k<w.heap.size→MutP b (.slice (some ⟨g,0,none⟩) n c) dv n pw k→MutP b (.slice (some ⟨g,0,none⟩) n c) dv n pv k:=fun k hk hmu=>by
  rcases hmu with hmu|hmu|hmu|⟨j,hj,hmu⟩
  ·exact .inl hmu
  ·exact .inr (.inl hmu)
  ·exact .inr (.inr (.inl hmu))
  ·by_cases e:j=m
   ·subst e
    rw[hpm] at hmu
    rcases hv with h'|h'
    ·exact .inr (.inr (.inr ⟨j,hj,h' ▸ hmu⟩))
    ·rw[h'] at hmu;have:=Option.some.inj hmu;omega
   ·rw[hpo j e] at hmu;exact .inr (.inr (.inr ⟨j,hj,hmu⟩))
 obtain ⟨xs,hx1,hx2⟩:=h.opens
 have hxl:xs.length=n*2:=hx1.1
 have hb2:(w2.setCell ⟨g,2*m+1,none⟩ v').heap[b]?=some (.cells #[.slice (some ⟨g,0,none⟩) n c,dv,.nilIface] 52 (0,0)) :=
  (hT.block b hbl (fun hk=>by
   rcases hk with hk|hk
   ·exact hgb hk.symm
   ·exact h.rpv m (by omega) hk)).trans hc
 have ho2:w2.ownsRow 0 97 2 (.slice (some ⟨g,0,none⟩) n c) n xs:=(hx1.kept h1 (Classical.em _)).kept hg (.inr (fun e=>hgp m (by omega) e.symm))
 have hopl:n=(De.add s l).op.length:=by rw[opLen_add];exact h.len
 have hdn:=dn_add_in s l (by rw[←h.len];omega)
 refine ⟨hu,hu.base hb (fun k hk=>(hF k hk).1),ext_own hb hF hu.size,.inl hm,.slice (some ⟨g,0,none⟩) n c,dv,?_,fun _=>⟨n,pw,hopl,h.deep,fun k hk=>?_,h.rov,h.rdv,fun j hj=>?_,fun i j hi hj hij k hk=>?_,⟨_,own_putN ho2 (K:=2*m+1) v',fun j hj=>?_⟩,?_,by rw[hdn];exact h.dlt,fun j hj=>?_⟩⟩
 ·rw[hb2,e_add,he];rfl
 ·by_cases hkl:k<w.heap.size
  ·exact .inl (h.mine k (hcame k hkl hk))
  ·refine .inr ⟨by omega,?_⟩
   rcases hk with hk|hk|hk|⟨j,hj,hk⟩
   ·omega
   ·have:=h.lt hF k (.inr (.inl hk));omega
   ·have:=h.lt hF k (.inr (.inr (.inl hk)));omega
   ·by_cases e:j=m
    ·subst e;rw[hpm] at hk;exact own_lt hown2 hk
    ·rw[hpo j e] at hk
     have:=h.lt hF k (.inr (.inr (.inr ⟨j,hj,hk⟩)));omega
 ·by_cases e:j=m
  ·subst e
   rw[hpm]
   intro e
   rcases hv with h'|h'
   ·rw[h'] at e;exact h.rpv j hj e
   ·rw[h'] at e;have:=Option.some.inj e;omega
  ·rw[hpo j e];exact h.rpv j hj
 ·have old:∀ j,j<n→∀ k,(pv j).ownBlock=some k→k<w.heap.size:=fun j hj k hk=>h.lt hF k (.inr (.inr (.inr ⟨j,hj,hk⟩)))
  by_cases ei:i=m
  ·subst ei
   rw[hpm] at hk
   rw[hpo j (Ne.symm hij)]
   intro hk2
   have hj2:=old j hj k hk2
   rcases hv with h'|h'
   ·rw[h'] at hk;exact h.apart i j hi hj hij k hk hk2
   ·rw[h'] at hk;have:=Option.some.inj hk;omega
  ·rw[hpo i ei] at hk
   have hi2:=old i hi k hk
   by_cases ej:j=m
   ·subst ej
    rw[hpm]
    intro hk2
    rcases hv with h'|h'
    ·rw[h'] at hk2;exact h.apart i j hi hj hij k hk hk2
    ·rw[h'] at hk2;have:=Option.some.inj hk2;omega
   ·rw[hpo j ej];exact h.apart i j hi hj hij k hk
 ·rw[tagsOf_add,List.getElem?_set,List.getElem?_set,if_neg (by omega)]
  refine ⟨(hx2 j hj).1,?_⟩
  by_cases e:j=m
  ·subst e
   rw[if_pos rfl,if_pos (by omega),hpm]
  ·rw[if_neg (by omega),hpo j e]
   exact (hx2 j hj).2
 ·rw[hdn]
  exact own_upto h.dones hT (fun k hk hmu=>by
   rcases hmu with rfl|hmu
   ·exact h.ov_dv rfl hk
   ·exact h.dv_pv hk (by omega) hmu)
 ·by_cases e:j=m
  ·subst e
   rw[hpm,levOf_add s l _ (by rw[←h.len];omega),if_pos (by rw[←h.len];omega),←hn]
   have e1:=imM_keep hb hF hyE (hT.mono (fun k _ hk=>hTM k hk)) hcame
   have e2:=imM_keep hb hF hx (hT.mono (fun k _ hk=>hTM k hk)) hcame
   exact ⟨ys++[x],by simpa using hown2,(e1.and e2).map fun W hW=>hW.1.append (show Each W [x] [l] from ⟨⟨hW.2.1,hW.2.2⟩,trivial⟩)⟩
  ·rw[hpo j e,levOf_add s l _ (by rw[←h.len];omega),if_neg (by rw[←h.len];omega)]
   exact (h.parts j hj).keep hb hF hT hTM hcame (fun k hk hmu=>by
    rcases hmu with rfl|hmu
    ·exact hgp j hj hk
    ·exact h.apart j m hj (by omega) e k hk hmu)
end
def PrPost (A:Nat→Addr) (W0:World) (F:Nat→Prop) (b:Nat) (w w':World) (s':De.St) (e:Ending):Prop:=e=.returned (.tuple #[])∧Upto F w w'∧PrW A W0 (Ext F w w') b s' w'
section
variable {A:Nat→Addr} {W0 w w2:World} {F:Nat→Prop} {b:Nat} {s:De.St}
theorem PrW.after {w':World} {s':De.St} {e:Ending} (h:PrW A W0 F b s w) (hg:w.grownBy w2 none) (hp:PrPost A W0 (Ext F w w2) b w2 w' s' e):PrPost A W0 F b w w' s' e:=by
 obtain ⟨h1,h2,h3⟩:=hp
 have:=h.join2 ⟨Upto.of_grown F hg,h.grow hg⟩ ⟨h2,h3⟩
 exact ⟨h1,this.1,this.2⟩
theorem PrW.same (h:PrW A W0 F b s w):Upto F w w∧PrW A W0 (Ext F w w) b s w:=⟨Upto.refl F w,h.iff (Ext.refl_iff F w)⟩
theorem PrW.err_cell (h:PrW A W0 F b s w):w.cell? ⟨b,2,none⟩=some (errOf A s.e)∧w.frozen? ⟨b,2,none⟩=false∧b<w.heap.size:=by
 obtain ⟨ov,dv,h1,_⟩:=h.body
 exact ⟨cell_blk h1 2 rfl,free_blk h1 2,blk_lt h1⟩
theorem prFail_any (h:PrW A W0 F b s w) (k:Nat) (hk:k≠0) :
  Calls Tryz.prog 56 #[.pointer (some ⟨b,0,none⟩),errV A k] w fun e w'=>PrPost A W0 F b w w' (De.fail s k) e:=by
 have HX:=hid h
 obtain ⟨c2,f2,hbl⟩:=h.err_cell
 unfold De.fail
 by_cases he:s.e=0
 ·rw[if_pos he]
  rw[errOf,if_pos he] at c2
  have HK:=hid (HX.out.err k hk)
  clear h he
  go_enter Tryz.func56,Tryz.ntmps56
  go_wp2
  go_returns
  exact ⟨rfl,HK.out⟩
 ·rw[if_neg he]
  rw[errOf,if_neg he] at c2
  have HK:=hid HX.out.same
  clear h he
  go_enter Tryz.func56,Tryz.ntmps56
  go_wp2
  go_returns
  exact ⟨rfl,HK.out⟩
end
theorem iEl:((Tryz.prog.info? 97).map (fun i=>(i.zero,i.size,i.bytes)))=some (some (.agg #[.int .i64 0,.slice none 0 0]),2,32):=by kernel_rfl
theorem add_opd (s:De.St) (t:Int) (ht:Tl.made t=true) (hd:s.op.length<16):De.opn s t=opd s t.toNat:=by
 unfold De.opn
 rw[if_neg (by rw[ht];simp),if_neg (by omega)]
 rfl
theorem prOpen_any {A:Nat→Addr} {W0 w:World} {F:Nat→Prop} {b:Nat} {s:De.St} (h:PrW A W0 F b s w) (hE:AllErrs W0 A) (t:Int) :
  Calls Tryz.prog 18 #[.pointer (some ⟨b,0,none⟩),.int .i64 t] w fun e w'=>PrPost A W0 F b w w' (if s.e=0 then De.opn s t else s) e:=by
 have HX:=hid h
 obtain ⟨c2,f2,hbl⟩:=h.err_cell
 have HED:Hid (w.cell? ⟨4,0,none⟩=some (errV A 5)∧w.cell? ⟨5,0,none⟩=some (errV A 6)):=hid (by
  have hEE:=hE.grown h.base
  have e5:=errs_at hEE 5 (by decide)
  have e6:=errs_at hEE 6 (by decide)
  simp only[errVars,List.getD_cons_zero,List.getD_cons_succ,Nat.add_one_sub_one] at e5 e6
  exact ⟨e5,e6⟩)
 by_cases he:s.e=0
 ·rw[if_pos he]
  rw[errOf,if_pos he] at c2
  have HM:=hid (made_any t)
  cases hm:Tl.made t with
  |false =>
   have hst:De.opn s t=De.fail s 5:=by unfold De.opn De.fail;rw[if_pos hm,if_pos he]
   rw[hst]
   rw[hm] at HM
   have HF:=hid (prFail_any HX.out 5 (by decide))
   have e5:=HED.out.1
   clear h he hm hst hE
   go_enter Tryz.func18,Tryz.ntmps18
   go_wp2_with (first
    |(go_at_call 55;refine (HM.out _).mono ?_;rintro e w2 ⟨rfl,hw2⟩;have hw2':=hw2.symm;subst hw2';clear hw2)
    |(go_at_call 56;refine HF.out.mono ?_;rintro e w3 ⟨rfl,k1,k2⟩;have K1:=hid k1;have K2:=hid k2;clear k1 k2))
   go_returns
   exact ⟨rfl,K1.out,K2.out⟩
  |true =>
   rw[hm] at HM
   obtain ⟨ov,dv,hc,hb⟩:=h.body
   obtain ⟨n,pv,hR⟩:=hb he
   rw[errOf,if_pos he] at hc
   have c0:=cell_blk hc 0 rfl
   have f0:=free_blk hc 0
   obtain ⟨xs,hx1,hx2⟩:=hR.opens
   obtain ⟨oa,og,oc,rfl,_⟩:=own_formN hx1
   have hdeep:=hR.deep
   have hlen:=hR.len
   by_cases hn:n=16
   ·have hst:De.opn s t=De.fail s 6:=by unfold De.opn De.fail;rw[if_neg (by rw[hm];simp),if_pos (by omega),if_pos he]
    rw[hst]
    have HF:=hid (prFail_any HX.out 6 (by decide))
    have e6:=HED.out.2
    subst hn
    clear h he hm hst hE hR hb hc hx1 hx2 hlen
    go_enter Tryz.func18,Tryz.ntmps18
    go_wp2_with (first
     |(go_at_call 55;refine (HM.out _).mono ?_;rintro e w2 ⟨rfl,hw2⟩;have hw2':=hw2.symm;subst hw2';clear hw2)
     |(go_at_call 56;refine HF.out.mono ?_;rintro e w3 ⟨rfl,k1,k2⟩;have K1:=hid k1;have K2:=hid k2;clear k1 k2))
    go_returns
    exact ⟨rfl,K1.out,K2.out⟩
   ·have hn16:n<16:=by omega
    have hst:De.opn s t=opd s t.toNat:=add_opd s t hm (by omega)
    have htn:((t.toNat:Nat):Int)=t:=by have:=Tl.made_nat t hm;omega
    rw[hst]
    have z16:((n:Int)==16)=false:=by simp;omega
    have HG:Hid (∀ o w2 v',w2.ownsRow 0 97 2 v' (n+1) (xs++[.int .i64 t,.slice none 0 0])→(w.alloc o).grownBy w2 (Value.slice oa n oc).ownBlock→(v'.ownBlock=(Value.slice oa n oc).ownBlock∨v'.ownBlock=some (w.alloc o).heap.size) →
      w2.cell? ⟨b,0,none⟩=some (.slice oa n oc)∧w2.frozen? ⟨b,0,none⟩=false∧Upto F w (w2.setCell ⟨b,0,none⟩ v')∧PrW A W0 (Ext F w (w2.setCell ⟨b,0,none⟩ v')) b (opd s t.toNat) (w2.setCell ⟨b,0,none⟩ v')):=hid (fun o w2 v' ho hg hv=>by
     have hb2:w2.heap[b]?=w.heap[b]?:=(hg.block b (by rw[alloc_size];omega) (fun e=>hR.rov e.symm)).trans (alloc_old _ _ _ hbl)
     exact ⟨(World.cell?_of_block hb2).trans c0,(World.frozen?_of_block hb2).trans f0,PwR.opened HX.out.base HX.out.own HX.out.mem he hc hR hn16 hx1 hx2 (World.grownBy_alloc _ _ _) (by rw[htn];exact ho) hg hv⟩)
    have HO:=hid hx1
    have HI:=hid iEl
    clear h he hm hst hE hR hb hc hx1 hx2 hlen htn
    go_enter Tryz.func18,Tryz.ntmps18
    go_wp2_with (first
     |(go_at_call 55;refine (HM.out _).mono ?_;rintro e w2 ⟨rfl,hw2⟩;have hw2':=hw2.symm;subst hw2';clear hw2)
     |(at_builtin;refine wpList_appN2 (by rfl) (.tmp 8) (.tmp 11) 50 (by rfl) 0 97 (.agg #[.int .i64 0,.slice none 0 0]) 2 32 Tryz.underlying50 HI.out rfl (by decide) (by decide) _ n xs (by rfl) (HO.out.alloc _) ⟨_,0,none⟩ 1 _ [.int .i64 t,.slice none 0 0] (by rfl) rfl (by intro j u hj;rw[addr_addO,Nat.zero_add];exact cell_blk (alloc_at _ _) j (by simpa using hj)) (by intro u hu;simp at hu;rcases hu with rfl|rfl <;> rfl) (by omega) (Nat.zero_le _) ?_;intro v' w2 ho hg hv;obtain ⟨va,vg,vc,rfl,q1,q2,q3,q4,q5⟩:=own_formN ho;clear q1 q2 q3 q4 q5;obtain ⟨d0,e0,k1,k2⟩:=HG.out _ _ _ ho hg hv;have K1:=hid k1;have K2:=hid k2;clear ho hg hv k1 k2))
    go_returns
    exact ⟨rfl,K1.out,K2.out⟩
 ·rw[if_neg he]
  rw[errOf,if_neg he] at c2
  have HK:=hid HX.out.same
  clear h he hE
  go_enter Tryz.func18,Tryz.ntmps18
  go_wp2
  go_returns
  exact ⟨rfl,HK.out⟩
theorem iLB:((Tryz.prog.info? 27).map (fun i=>(i.zero,i.size,i.bytes)))=some (some (.slice none 0 0),1,24):=by kernel_rfl
theorem prAdd_new {A:Nat→Addr} {W0 w w2:World} {F:Nat→Prop} {b:Nat} {s:De.St} {x:Value} {l:List Nat} (h:PrW A W0 F b s w) (he:s.e=0) (hl:Lim 1000 s) (hll:l.length≤70000) (hg:w.grownBy w2 none)
  (hx:Sup (fun k=>w.heap.size≤k∧k<w2.heap.size) w2 (fun W=>Bytes W x l∧Whole0 x)) :
  Calls Tryz.prog 103 #[.pointer (some ⟨b,0,none⟩),x] w2 fun e w'=>PrPost A W0 F b w w' (De.add s l) e:=by
 have h2:=h.grow hg
 have HX:=hid h2
 have HX0:=hid h
 have HG0:=hid hg
 obtain ⟨ov,dv,hc0,hb0⟩:=h.body
 obtain ⟨n,pv,hR0⟩:=hb0 he
 have hRold:∀ k,MutP b ov dv n pv k→k<w.heap.size:=fun k hk=>(h.own k (hR0.mine k hk)).2
 have hc:w2.heap[b]?=some (.cells #[ov,dv,errOf A s.e] 52 (0,0)):=(hg.block b (h.own b h.mem).2 (by simp)).trans hc0
 have hR:=(hR0.other (G:=fun _=>False) h.base (fun _ h=>h.elim) (Upto.of_grown _ hg) (fun _ h=>h.elim)).wide h2.base (fun k hk=>.inl hk) h2.own
 rw[errOf,if_pos he] at hc
 have c0:=cell_blk hc 0 rfl
 have c1:=cell_blk hc 1 rfl
 have f1:=free_blk hc 1
 have hbl:=blk_lt hc
 obtain ⟨xs,hx1,hx2⟩:=hR.opens
 obtain ⟨oa,og,oc,rfl,hnc,hmx,_,_,hop⟩:=own_formN hx1
 have hlen:=hR.len
 have hdeep:=hR.deep
 by_cases hn:n=0
 ·subst hn
  have hlv:s.dn.length≤1000:=by have:=hl.len 0;rwa [show levOf s 0=s.dn from rfl] at this
  have hfl:s.dn.flatten.length≤70000*1000:=by
   have h5:=cat_len' s.dn (fun z hz=>hl.big 0 z hz)
   omega
  have HO:=hid hR.dones
  obtain ⟨hxB,hx0⟩:=hx.now
  have HB:=hid hxB
  have H0:=hid hx0
  have HG:Hid (∀ w3 v',w3.ownsRow 0 5 1 v' (s.dn.flatten.length+l.length) (cellsL s.dn.flatten++cellsL l)→w2.grownBy w3 dv.ownBlock→(v'.ownBlock=dv.ownBlock∨v'.ownBlock=some w2.heap.size) →
    w3.cell? ⟨b,1,none⟩=some dv∧w3.frozen? ⟨b,1,none⟩=false∧PrPost A W0 F b w (w3.setCell ⟨b,1,none⟩ v') (De.add s l) (.returned (.tuple #[]))):=hid (fun w3 v' ho hg3 hv=>by
   have hb2:w3.heap[b]?=w2.heap[b]?:=hg3.block b hbl (fun e=>hR.rdv e.symm)
   exact ⟨(World.cell?_of_block hb2).trans c1,(World.frozen?_of_block hb2).trans f1,HX0.out.after HG0.out ⟨rfl,PwR.added0 HX.out.base HX.out.own HX.out.mem he rfl hc hR hxB.lt (grown_refl _ _) ho hg3 hv⟩⟩)
  obtain ⟨dl,hdl⟩:∃ dl,dl=s.dn.flatten.length:=⟨_,rfl⟩
  have HDl:Hid (dl≤70000000∧l.length≤70000):=hid (by omega)
  rw[←hdl] at HO HG
  clear h h2 he hl hll hg hx hc hc0 hb0 hR0 hRold hR hx1 hx2 hnc hmx hop hlen hdeep hlv hfl hxB hx0 hdl
  go_enter Tryz.func103,Tryz.ntmps103
  go_wp2_with (at_builtin;refine wpList_appB2 (by rfl) (.tmp 15) (.tmp 16) 27 (by rfl) 0 5 (.int .u8 0) 1 Tryz.underlying27 (by kernel_rfl) rfl (by decide) _ _ _ (by rfl) HO.out _ l (by rfl) HB.out H0.out (by have:=HDl.out;omega) (Nat.zero_le _) ?_;intro v' w3 ho3 hg3 hv3;obtain ⟨va,vg,vc,rfl,q1,q2,q3,q4,q5⟩:=own_formN ho3;clear q1 q2 q3 q4 q5;obtain ⟨d1,e1,k1⟩:=HG.out _ _ ho3 hg3 hv3;have K1:=hid k1;clear ho3 hg3 hv3 k1)
  go_returns
  exact K1.out
 ·obtain ⟨m,rfl⟩:∃ m,n=m+1:=⟨n-1,by omega⟩
  obtain ⟨rfl,hogl,hcells,hfree⟩:=hop (by omega)
  obtain ⟨ys,hy1,hy2⟩:=hR.parts m (by omega)
  obtain ⟨ya,yg,yc,hyv,_⟩:=own_formN hy1
  have hyl:ys.length≤1000:=by rw[hy2.now.len];exact hl.len _
  have hcm:=hcells _ _ (hx2 m (by omega)).2
  have hfm:=hfree (2*m+1)
  rw[hyv] at hcm
  have HO:=hid hy1
  have HYl:=hid hyl
  have hxI:Sup (ImM W0 (Ext F w w2) (MutP b (.slice (some ⟨og,0,none⟩) (m+1) oc) dv (m+1) pv)) w2 (fun W=>Bytes W x l∧Whole0 x):=by
   have hsz:=hg.size
   refine hx.mono (fun k hk=>⟨.inl (.inr hk),fun hmu=>?_⟩) (fun k hk=>?_)
   ·have:=hRold k hmu;omega
   ·rcases hk.1 with hk|hk
    ·exact (HX.out.own k hk).2
    ·exact Nat.lt_of_lt_of_le hk HX.out.base.size
  have HG:Hid (∀ wq o w3 v',w2.grownBy wq none→w3.ownsRow 0 27 1 v' (ys.length+1) (ys++[x])→(wq.alloc o).grownBy w3 (pv m).ownBlock→(v'.ownBlock=(pv m).ownBlock∨v'.ownBlock=some (wq.alloc o).heap.size) →
    w3.cell? ⟨og,2*m+1,none⟩=some (pv m)∧w3.frozen? ⟨og,2*m+1,none⟩=false∧PrPost A W0 F b w (w3.setCell ⟨og,2*m+1,none⟩ v') (De.add s l) (.returned (.tuple #[]))):=hid (fun wq o w3 v' hq ho hg3 hv=>by
   have hqs:=hq.size
   have hb2:w3.heap[og]?=w2.heap[og]?:=(hg3.block og (by rw[alloc_size];omega) (fun e=>hR.ov_pv rfl (by omega) e.symm)).trans ((alloc_old _ _ _ (by omega)).trans (hq.block og hogl (by simp)))
   exact ⟨(World.cell?_of_block hb2).trans (by rw[hcm,hyv]),(World.frozen?_of_block hb2).trans hfm,HX0.out.after HG0.out ⟨rfl,PwR.added1 HX.out.base HX.out.own HX.out.mem he rfl hc hR hy1 hy2 hxI (grown_alloc hq _) ho hg3 hv⟩⟩)
  have HCm:Hid (∀ wq,w2.grownBy wq none→wq.cell? ⟨og,2*m+1,none⟩=some (.slice ya ys.length yc)):=hid (fun wq hq=>(World.cell?_of_block (hq.block og hogl (by simp))).trans hcm)
  rw[Nat.mul_comm 2 m] at HG HCm
  have HI:=hid iLB
  have hwm:IntKind.i64.wrap (((m+1:Nat):Int)-1)=(m:Int):=by
   simp only[IntKind.wrap,IntKind.bits,IntKind.signed]
   simp
   omega
  have hone:=(hx.now.1)
  obtain ⟨_,xa,_,_,xc,rfl,_⟩:=hone
  rw[hyv] at HO HG
  obtain ⟨N,hN⟩:∃ N,N=m+1:=⟨_,rfl⟩
  rw[←hN] at c0 hwm
  have hmN:(m:Int)<(N:Int):=by omega
  have hm0:(0:Int)≤(m:Int):=by omega
  have z0:((N:Int)==0)=false:=by simp;omega
  clear h h2 he hl hll hg hx hc hc0 hb0 hR0 hRold hR hx1 hx2 hnc hmx hop hlen hdeep hy1 hy2 hyl hyv hcells hfree hxI hN hn
  go_enter Tryz.func103,Tryz.ntmps103
  go_wp2
  go_quiet (fail)
  have hgq:w2.grownBy (w2.drewN nq) none:=grown_drewN (grown_refl _ _) _
  have HGq:=hid hgq
  have d1:=HCm.out _ hgq
  have HOq:=hid (HO.out.kept hgq (Classical.em _))
  clear hgq
  generalize w2.drewN nq=wq at *
  go_wp2_with (at_builtin;refine wpList_appN2 (by rfl) (.tmp 35) (.tmp 37) 95 (by rfl) 0 27 (.slice none 0 0) 1 24 Tryz.underlying95 HI.out rfl (by decide) (by decide) _ _ ys (by rfl) (HOq.out.alloc _) ⟨_,0,none⟩ 1 _ [.slice xa l.length xc] (by rfl) rfl (by intro j u hj;rw[addr_addO,Nat.zero_add];exact cell_blk (alloc_at _ _) j (by simpa using hj)) (by intro u hu;simp at hu;rw[hu];rfl) (by have:=HYl.out;omega) (Nat.zero_le _) ?_;intro v' w3 ho3 hg3 hv3;obtain ⟨va,vg,vc,rfl,q1,q2,q3,q4,q5⟩:=own_formN ho3;clear q1 q2 q3 q4 q5;obtain ⟨d2,e2,k1⟩:=HG.out _ _ _ _ HGq.out ho3 hg3 hv3;have K1:=hid k1;clear ho3 hg3 hv3 k1)
  go_returns
  exact K1.out
structure RunW (A:Nat→Addr) (W0 w:World) (F F':Nat→Prop) (b:Nat) (s':De.St) (wr:World):Prop where
 upto:Upto F w wr
 wrt:PrW A W0 F' b s' wr
 sub:∀ k,F' k→Ext F w wr k
section
variable {A:Nat→Addr} {W0 w w2 wr:World} {F F':Nat→Prop} {b:Nat} {s' s2:De.St} {e:Ending}
theorem RunW.still (h:RunW A W0 w F F' b s' wr) (hg:wr.grownBy w2 none):RunW A W0 w F F' b s' w2 :=
 ⟨h.upto.trans (Upto.of_grown F hg) (fun _ _ h=>h),h.wrt.still hg,fun k hk=>by
  have:=hg.size
  rcases h.sub k hk with h1|h1
  ·exact .inl h1
  ·exact .inr ⟨h1.1,by omega⟩⟩
theorem RunW.call (h:RunW A W0 w F F' b s' wr) (hp:PrPost A W0 F' b wr w2 s2 e):RunW A W0 w F (Ext F' wr w2) b s2 w2:=by
 obtain ⟨_,hu,hr⟩:=hp
 have h1:=h.upto.size
 have h2:=hu.size
 refine ⟨h.upto.trans hu (fun k hk hf=>?_),hr,fun k hk=>?_⟩
 ·rcases h.sub k hf with hf|hf
  ·exact hf
  ·omega
 ·rcases hk with hk|hk
  ·rcases h.sub k hk with h3|h3
   ·exact .inl h3
   ·exact .inr ⟨h3.1,by omega⟩
  ·exact .inr ⟨by omega,hk.2⟩
theorem RunW.done (hw:∀ k,F k→W0.heap.size≤k∧k<w.heap.size) (hb:W0.grownBy w none) (h:RunW A W0 w F F' b s' wr):PrPost A W0 F b w wr s' (.returned (.tuple #[])):=⟨rfl,h.upto,h.wrt.wide h.sub (ext_own hb hw h.upto.size)⟩
theorem RunW.first (hp:PrPost A W0 F b w w2 s2 e):RunW A W0 w F (Ext F w w2) b s2 w2:=⟨hp.2.1,hp.2.2,fun k hk=>hk⟩
end
def DnPost (w w':World) (r:Except Nat (List Nat)) (e:Ending):Prop:=w.grownBy w' none ∧
 match r with
 |.ok l=>∃ u,e=.returned (.tuple #[u,.int .i64 0])∧FrW w w' u l
 |.error k=>e=.returned (.tuple #[.slice none 0 0,.int .i64 (k:Nat)])
theorem refDone_any {W0 w:World} {F:Nat→Prop} {b m:Nat} {s:De.St} (h:RefW W0 F b s w) (hl:Lim m s) (hm:m≤1000) :
  Calls Tryz.prog 49 #[.pointer (some ⟨b,0,none⟩)] w fun e w'=>DnPost w w' (De.done s) e:=by
 obtain ⟨tv,rv,hc,hRw⟩:=h.body
 have hbl:=blk_lt hc
 have c0:=cell_blk hc 0 rfl
 have c1:=cell_blk hc 1 rfl
 have c2:=cell_blk hc 2 rfl
 obtain ⟨Rr,hRr⟩:∃ Rr,Rr=De.done s:=⟨_,rfl⟩
 rw[←hRr]
 unfold De.done at hRr
 by_cases he:s.e=0
 ·rw[if_neg (by omega)] at hRr
  rw[he] at c2
  have hR:=hRw he
  obtain ⟨ta,tc,rfl⟩:∃ ta tc,tv=.slice ta s.op.length tc:=by
   obtain ⟨a,sb,so,c,h,_⟩:=hR.tags.now.1
   rw[tagsOf_len] at h
   exact ⟨a,c,h⟩
  by_cases hop:s.op=[]
  ·rw[if_neg (by simpa using hop)] at hRr
   have HRr:=hid hRr
   rw[hop] at c0
   obtain ⟨n,xs,hn,ho,hlv⟩:=hR.rows
   obtain ⟨ra,c,rfl⟩:∃ ra c,rv=.slice ra n c:=by
    obtain ⟨a,g,c,h,_⟩:=ownsRow_form ho
    exact ⟨a,c,h⟩
   obtain ⟨ys,hys⟩:=hlv 0 (by omega)
   obtain ⟨hV,hE,hW0⟩:=hys.now
   have hl0:levOf s 0=s.dn:=by unfold levOf;rw[if_pos rfl]
   rw[hl0] at hE
   have HJs:Hid (s.dn.length≤1000):=hid (by have:=hl.len 0;rw[hl0] at this;omega)
   have HBig:Hid (∀ z∈s.dn,z.length≤70000):=hid (fun z hz=>hl.big 0 z (by rw[hl0];exact hz))
   have hg1:w.grownBy (w.alloc (.cells #[] 5)) none:=World.grownBy_alloc _ _ _
   have d1:=(World.cell?_of_block (hg1.block _ hbl (by simp))).trans c1
   have d0:=(World.cell?_of_block (hg1.block _ hbl (by simp))).trans c0
   have HG1:=hid hg1
   have FA:=hid (FW0 w)
   by_cases hn0:n=0
   ·subst hn0
    have hx0:xs=[]:=List.eq_nil_of_length_eq_zero (by simpa using ho.1)
    subst hx0
    have hy0:ys=[]:=by
     have:=hV.cap (a:=none) (n:=0) (c:=0)
     exact List.eq_nil_of_length_eq_zero this.1.symm
    subst hy0
    have hd:s.dn=[]:=by
     have:=hE.len
     exact List.eq_nil_of_length_eq_zero this.symm
    rw[hd] at HRr
    clear hE hV hlv ho hR hRw h hc hRr hg1 hys hW0
    go_enter Tryz.func49,Tryz.ntmps49
    go_wp2
    go_returns
    rw[HRr.out]
    exact ⟨HG1.out,_,rfl,FA.out⟩
   ·obtain ⟨la,lc,hla⟩:∃ la lc,xs.getD 0 (.slice none 0 0)=.slice la s.dn.length lc:=by
     obtain ⟨a,_,_,c,h,_⟩:=hV
     rw[hE.len] at h
     exact ⟨a,c,h⟩
    rw[hla] at hV hW0
    obtain ⟨g,rfl,hgl,hgc⟩:∃ g,ra=some ⟨g,0,none⟩∧g<w.heap.size∧w.cell? ⟨g,0,none⟩=some (.slice la s.dn.length lc):=by
     have hl:=ho.1
     rcases ho.2 with ⟨_,h0⟩|⟨g,cap,cur,h4,_,h5,_,_,h6,h7⟩
     ·omega
     ·simp only[Value.slice.injEq] at h4
      obtain ⟨rfl,_,_⟩:=h4
      refine ⟨g,rfl,blk_lt h5,cell_blk h5 0 ?_⟩
      rw[←hla]
      have hk2:xs[0]?=some (xs.getD 0 (.slice none 0 0)):=by
       rw[List.getD_eq_getElem?_getD,List.getElem?_eq_getElem (by omega)];rfl
      rw[←hk2,←h7,List.getElem?_take,if_pos (by omega)]
      simp
    have dg:=(World.cell?_of_block (hg1.block _ hgl (by simp))).trans hgc
    have hn1:(0:Int)<(n:Int):=by omega
    have HVz:=hid hV
    have HE5:=hid hE
    generalize s.dn=LL at *
    obtain ⟨j,hj⟩:∃ j,j=LL.length:=⟨_,rfl⟩
    have HLL:Hid (LL.length=j):=hid hj.symm
    rw[←hj] at HVz HJs dg
    have HPl:Hid (∀ i,i≤j→(LL.take i).flatten.length≤100000000):=hid (fun i hi=>by
     have:=cat_len' (LL.take i) (fun z hz=>HBig.out z (List.mem_of_mem_take hz))
     rw[List.length_take,HLL.out] at this
     have:=HJs.out
     omega)
    have HTk:Hid (∀ i,i<j→(LL.take (i+1)).flatten=(LL.take i).flatten++LL.getD i []):=hid (fun i hi=>cat_take _ (by rw[HLL.out];exact hi))
    have HTe:Hid ((LL.take j).flatten=LL.flatten):=hid (by rw[List.take_of_length_le (by rw[HLL.out];exact Nat.le_refl _)])
    obtain ⟨sb,so,HI⟩:=vals_each HVz.out HE5.out HLL.out
    have HI3:=hid HI
    clear HI hE hV hlv ho hR hRw h hc hRr hg1 hys hW0 hgc hla hj
    go_enter Tryz.func49,Tryz.ntmps49
    go_wp2
    go_loopw [4,36] (fun v i wr=>∃ k:Nat,k≤j∧i=.int .i64 (k:Int)∧FrW w wr v (LL.take k).flatten) (fun _ i _=>j-(intOf i).toNat)
    case atStart=>exact ⟨0,Nat.zero_le _,rfl,FA.out⟩
    case round =>
     obtain ⟨k,hk,rfl,hF⟩:=hrel
     have hjs:=HJs.out
     have HF:=hid hF
     by_cases hkj:k<j
     ·obtain ⟨rfl,y,hy,hyb,hy0⟩:=HI3.out wr hF.grown k hkj
      have HYb:=hid hyb
      have HY0:=hid hy0
      have HTk2:=hid (HTk.out k hkj)
      have HP2:=hid (HPl.out (k+1) (by omega))
      clear hF hyb hy0
      go_wp2_with (at_builtin;refine wpList_appB (by rfl) (.tmp 40) (.tmp 41) 27 (by rfl) w.heap.size 5 (.int .u8 0) 1 Tryz.underlying27 (by kernel_rfl) rfl (by decide) _ _ _ (by rfl) HF.out.own _ _ (by rfl) HYb.out HY0.out (by have h1:=HP2.out;rw[HTk2.out,List.length_append] at h1;omega) HF.out.le ?_;intro v4 w4 ho4 hg4;have F4:=hid (HF.out.step (l':=(LL.take (k+1)).flatten) ho4 hg4 (by rw[HTk2.out];exact (cellsL_append _ _).symm));clear ho4 hg4)
      go_roundw
      case rel=>exact ⟨v4,y,.int .i64 ((k:Int)+1),⟨k+1,by omega,by go_num,F4.out⟩,rfl,rfl,rfl⟩
      case measure=>simp[intOf];omega
     ·obtain rfl:k=j:=by omega
      rw[HTe.out] at HF
      obtain ⟨av,gv,cv,hav,_⟩:=ownsRow_form HF.out.own
      clear hF
      subst hav
      generalize LL.flatten=AL at *
      by_cases hbig:65536<AL.length
      ·have hz:(65536:Int)<(AL.length:Int):=by omega
       go_wp2
       go_returns
       rw[HRr.out,if_pos hbig]
       exact ⟨HF.out.grown,rfl⟩
      ·have hz:¬ (65536:Int)<(AL.length:Int):=by omega
       go_wp2
       go_returns
       rw[HRr.out,if_neg hbig]
       exact ⟨HF.out.grown,_,rfl,HF.out⟩
  ·rw[if_pos (by simpa using hop)] at hRr
   have hz:(0:Int)<(s.op.length:Int):=by
    have:=List.length_pos_iff.2 hop
    omega
   have HRr:=hid hRr
   clear hRw h hc hR hRr
   go_enter Tryz.func49,Tryz.ntmps49
   go_wp2
   go_returns
   rw[HRr.out]
   exact ⟨grown_refl _ _,rfl⟩
 ·rw[if_pos (by omega)] at hRr
  have hz:((s.e:Nat):Int)≠0:=by omega
  have HRr:=hid hRr
  clear hRw h hc hRr
  go_enter Tryz.func49,Tryz.ntmps49
  go_wp2
  go_quiet (fail)
  go_wp2
  go_returns
  rw[HRr.out]
  exact ⟨grown_drewN (grown_refl _ _) _,rfl⟩
theorem RefW.new {W0 w:World} (hb:W0.grownBy w none) :
  RefW W0 (fun k=>k=w.heap.size) w.heap.size De.St.zero (w.alloc (.cells #[.slice none 0 0,.slice none 0 0,.int .i64 0] 83)):=by
 have hs:(w.alloc (.cells #[.slice none 0 0,.slice none 0 0,.int .i64 0] 83)).heap.size=w.heap.size+1:=alloc_size _ _
 have h0:=hb.size
 have hlt:∀ k,Im W0 (fun k=>k=w.heap.size) w.heap.size (.slice none 0 0) k→k<(w.alloc (.cells #[.slice none 0 0,.slice none 0 0,.int .i64 0] 83)).heap.size:=fun k hk=>by
  rcases hk.1 with hk|hk
  ·rw[hs,hk];omega
  ·rw[hs];omega
 refine ⟨grown_alloc hb _,fun k hk=>⟨by rw[hk];exact h0,by rw[hs,hk];omega⟩,rfl,.slice none 0 0,.slice none 0 0,alloc_at w _,fun _=>⟨fun k hk=>absurd hk (by simp[Value.ownBlock]),by simp[De.St.zero],fun h=>absurd h (by simp[De.St.zero]),⟨hlt,fun w' _=>⟨Ints.nil w',fun n c e=>by cases e;exact ⟨rfl,rfl⟩⟩⟩,0,[],by omega,⟨rfl,.inl ⟨rfl,rfl⟩⟩,fun k hk=>?_⟩⟩
 have hk0:k=0:=by simpa [De.St.zero] using hk
 subst hk0
 exact LevS.nil hlt
def TwoW (A:Nat→Addr) (W0:World) (b1 b2:Nat) (B:Nat→Prop) (s t:De.St) (w:World):Prop :=
 ∃ F1 F2,PrW A W0 F1 b1 s w∧RefW W0 F2 b2 t w∧Apart F1 F2∧∀ k,B k→k<w.heap.size∧¬ F1 k∧¬ F2 k
section
variable {A:Nat→Addr} {W0 w w':World} {b1 b2:Nat} {B:Nat→Prop} {s t:De.St}
theorem TwoW.base (h:TwoW A W0 b1 b2 B s t w):W0.grownBy w none:=by
 obtain ⟨F1,F2,h1,_⟩:=h
 exact h1.base
end
structure RunD (W0 w:World) (F F':Nat→Prop) (b:Nat) (s':De.St) (wr:World):Prop where
 upto:Upto F w wr
 wrt:RefW W0 F' b s' wr
 sub:∀ k,F' k→Ext F w wr k
section
variable {W0 w w2 wr:World} {F F' F2:Nat→Prop} {b:Nat} {s s' s2:De.St}
theorem RunD.start (h:RefW W0 F b s w):RunD W0 w F F b s w:=⟨Upto.refl F w,h,fun k hk=>.inl hk⟩
theorem RunD.still (h:RunD W0 w F F' b s' wr) (hg:wr.grownBy w2 none):RunD W0 w F F' b s' w2 :=
 ⟨h.upto.trans (Upto.of_grown F hg) (fun _ _ h=>h),h.wrt.still hg,fun k hk=>by
  have:=hg.size
  rcases h.sub k hk with h1|h1
  ·exact .inl h1
  ·exact .inr ⟨h1.1,by omega⟩⟩
theorem RunD.call (hw:∀ k,F k→k<w.heap.size) (h:RunD W0 w F F' b s' wr) (hu:Upto F' wr w2) (hr:RefW W0 (Ext F' wr w2) b s2 w2):RunD W0 w F (Ext F' wr w2) b s2 w2:=by
 have h1:=h.upto.size
 have h2:=hu.size
 refine ⟨h.upto.trans hu (fun k hk hf=>?_),hr,fun k hk=>?_⟩
 ·rcases h.sub k hf with hf|hf
  ·exact hf
  ·omega
 ·rcases hk with hk|hk
  ·rcases h.sub k hk with h3|h3
   ·exact .inl h3
   ·exact .inr ⟨h3.1,by omega⟩
  ·exact .inr ⟨by omega,hk.2⟩
theorem RunD.comp (h:RunD W0 w F F' b s wr) (h2:RunD W0 wr F' F2 b s' w2):RunD W0 w F F2 b s' w2:=by
 have h3:=h.upto.size
 have h4:=h2.upto.size
 refine ⟨h.upto.trans h2.upto (fun k hk hf=>?_),h2.wrt,fun k hk=>?_⟩
 ·rcases h.sub k hf with hf|hf
  ·exact hf
  ·omega
 ·rcases h2.sub k hk with hk|hk
  ·rcases h.sub k hk with h5|h5
   ·exact .inl h5
   ·exact .inr ⟨h5.1,by omega⟩
  ·exact .inr ⟨by omega,hk.2⟩
theorem RunD.kept {k:Nat} (h:RunD W0 w F F' b s' wr) (hk:k<w.heap.size) (hf:¬ F k):wr.heap[k]?=w.heap[k]?:=h.upto.block k hk hf
theorem RunD.did {m:Nat} (hw:∀ k,F k→k<w.heap.size) (h:RunD W0 w F F' b s' wr) (hl:Lim m s') (hm:m≤1000) (x:De.Val) (k n:Int) (S:ByteArray) (hk:x.kind=k) (hn:x.n=n) (hi:x.is=false) (hb:x.b=[]) (ht:x.t=strL S) (hS:S.size≤1000) :
  Calls Tryz.prog 47 #[.pointer (some ⟨b,0,none⟩),.agg #[.int .i64 k,.int .i64 n,.bool false,.slice none 0 0,.string S]] wr fun e w'=>e=.returned (.tuple #[])∧∃ F2,RunD W0 w F F2 b (De.step s' x) w':=by
 have hv:ValV wr (.agg #[.int .i64 k,.int .i64 n,.bool false,.slice none 0 0,.string S]) x :=
  ⟨.slice none 0 0,S,by rw[hk,hn,hi],by rw[hb];exact ⟨by simp,none,0,0,0,rfl,Nat.le_refl _,fun h=>absurd h (Nat.lt_irrefl _),fun j hj=>absurd hj (Nat.not_lt_zero _)⟩,fun _ _ e=>by cases e;exact ⟨rfl,rfl⟩,ht.symm,hS⟩
 exact (refDo_any h.wrt hl hm _ x hv (by rw[hb];simp)).mono (fun e w' hp=>⟨hp.1,_,h.call hw hp.2.1 hp.2.2⟩)
theorem RunD.did6 {m:Nat} (hw:∀ k,F k→k<w.heap.size) (h:RunD W0 w F F' b s' wr) (hl:Lim m s') (hm:m≤1000) (x:De.Val) (a:Option Addr) (n c:Nat) (hk:x.kind=6) (hn:x.n=0) (hi:x.is=false) (ht:x.t=[]) (hB:Bytes wr (.slice a n c) x.b) (h0:Whole0 (.slice a n c)) (hx:x.b.length≤1000000) :
  Calls Tryz.prog 47 #[.pointer (some ⟨b,0,none⟩),.agg #[.int .i64 6,.int .i64 0,.bool false,.slice a n c,.string ⟨#[]⟩]] wr fun e w'=>e=.returned (.tuple #[])∧∃ F2,RunD W0 w F F2 b (De.step s' x) w':=by
 have hv:ValV wr (.agg #[.int .i64 6,.int .i64 0,.bool false,.slice a n c,.string ⟨#[]⟩]) x :=
  ⟨.slice a n c,⟨#[]⟩,by rw[hk,hn,hi],hB,h0,by rw[ht];rfl,by decide⟩
 exact (refDo_any h.wrt hl hm _ x hv hx).mono (fun e w' hp=>⟨hp.1,_,h.call hw hp.2.1 hp.2.2⟩)
end
end Go.Proofs.YtjjbkpjjmbfdhaaGreatDoor
