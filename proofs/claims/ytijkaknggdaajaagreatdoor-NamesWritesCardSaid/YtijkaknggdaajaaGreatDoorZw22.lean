import Derived.Test.YtijkaknggdaajaaGreatDoorZw12
import Derived.Test.YtijkaknggdaajaaGreatDoorZw21
set_option linter.unusedVariables false
set_option linter.unusedSimpArgs false
set_option maxRecDepth 100000
set_option maxHeartbeats 4000000
namespace Go.Proofs.YtijkaknggdaajaaGreatDoor
open Go.Proofs.Tryz
open Lib (hid)
open Go.RowKit
theorem zDZ {l:List Nat} {k:Nat} (h:Tl.levels l=.error k):k≠0:=by
 unfold Tl.levels at h;split at h
 ·cases h;decide
 ·split at h
  ·rename_i e he
   cases h
   exact De.first_err he
  ·split at h
   ·cases h;decide
   ·exact De.within_err _ _ _ _ h
theorem zID {W0 w:World} {F:Nat->Prop} {b:Nat} {s:De.St} (h:RefW W0 F b s w) (he:s.e=0) (hsm:∀ k,(zAI s k).length<=2000) (v:Value) (x:De.Val) (hv:ValV w v x) (k11:x.kind=11) (hxl:x.b.length<=1000000) :
  Calls prog 25 #[.pointer (some ⟨b,0,none⟩),v] w fun e w'=>e=.returned (.tuple #[])/\Upto F w w'/\RefW W0 (Ext F w w') b (De.step s x) w':=by
 have HX:=hid h;have HSm:=hid hsm;have hst:De.step s x=De.raw s x.b:=by unfold De.step;rw[if_neg (by omega),if_neg (by omega),if_neg (by omega),if_pos k11]
 rw[hst];obtain⟨tv,rv,hc,_⟩:=h.body;have c2:=cell_blk hc 2 rfl;have f2:=zAh hc 2;have hbl:=zAi hc;obtain⟨bv,S,rfl,hB,h0,_⟩:=hv;have HB:=hid hB;have H0:=hid h0;have hlt:=hid hB.1;rw[k11];obtain⟨_,va,vsb,vso,vc,rfl,_⟩:=hB;have hg:w.grownBy (w.alloc (.cells #[.int .i64 11,.int .i64 x.n,.bool x.is,.slice va x.b.length vc,.string S] 63)) none:=World.grownBy_alloc _ _ _;have HG:=hid hg;have c2':=World.cell?_alloc_some w ⟨b,2,none⟩ (.cells #[.int .i64 11,.int .i64 x.n,.bool x.is,.slice va x.b.length vc,.string S] 63) (by rw[c2];rfl);rw[c2,he]at c2';have hbox:(w.alloc (.cells #[.int .i64 11,.int .i64 x.n,.bool x.is,.slice va x.b.length vc,.string S] 63)).heap[w.heap.size]?=_:=alloc_at w _;have HBox:=hid hbox;have HR:=hid (zCX _ x.b _ (HB.out.grown hg) (by omega));have HLe:Hid (x.b.length<=1000000):=hid hxl;generalize x.n=nn at *;generalize x.is=ii at *;unfold De.raw;generalize x.b=bs at *;generalize hbb:bs.length=bb at *;have HBb:=hid hbb;cases hp:Tl.levels bs with
 |error q =>
  have hq0:(q:Int)≠0:=by have:=zDZ hp;omega
  rw[hp]at HR;simp only[WhR]at HR;clear h hc hg hst hsm hp h0 k11 hbb hbox;go_enter func25,ntmps25
  go_wp2_with (go_at_call 58;go_loud (refine HR.out.mono ?_;rintro e w2 ⟨rfl,hg2⟩;have hg3:=zAb HG.out hg2;have HG2:=hid hg3;have d2:=(World.cell?_of_block (hg3.block _ hbl (by simp))).trans c2;have e2:=(World.frozen?_of_block (hg3.block _ hbl (by simp))).trans f2;clear hg2 hg3))
  go_returns
  exact⟨rfl,RefW.after HG2.out ((HX.out.grow HG2.out).err q (by omega))⟩
 |ok m =>
  rw[hp]at HR;simp only[WhR]at HR;clear h hc hg hst hsm hp h0 k11 hbb hbox;go_enter func25,ntmps25
  go_wp2_with (first
   |(go_at_call 58;refine HR.out.mono ?_;rintro e w2 ⟨rfl,hg2⟩;have hg3:=zAb HG.out hg2;have HG2:=hid hg3;have d3:=cell_blk ((hg2.block _ (zAi HBox.out) (by simp)).trans HBox.out) 3 rfl;have d3':=World.cell?_alloc_some w2 ⟨w.heap.size,3,none⟩ (.cells #[] 5) (by rw[d3];rfl);rw[d3]at d3';have F0:Hid (FrW w2 (w2.alloc (.cells #[] 5)) (.slice (some ⟨w2.heap.size,0,none⟩) 0 0) []):=hid ⟨World.grownBy_alloc _ _ _,ownsRow_lit (alloc_at w2 _) (Nat.le_refl _) (by simp)⟩;have HB2:=hid (HB.out.grown hg3);clear hg2 hg3)
   |(at_builtin;refine zAP (by rfl) (.tmp 178) (.tmp 180) 33 (by rfl) w2.heap.size 5 (.int .u8 0) 1 underlying33 (by kernel_rfl) rfl (by decide) _ 0 (cellsL []) (by rfl) F0.out.own _ bs (by rfl) (HB2.out.grown F0.out.grown) H0.out (by have:=HLe.out;have:=HBb.out;simp;omega) F0.out.le ?_;intro v3 w3 ho3 hg3;have F3:=hid (F0.out.step (l':=[]++bs) ho3 hg3 (zAn _ _).symm);clear ho3 hg3)
   |(go_at_call 59;refine(zDV (HX.out.grow HG2.out) he HSm.out F3.out.grown (zIV F3.out (by simpa using hlt.out))).mono ?_;rintro e w4 ⟨rfl,k1,k2⟩;have K1:=hid k1;have K2:=hid k2;clear k1 k2))
  go_returns
  exact⟨rfl,RefW.after HG2.out ⟨K1.out,K2.out⟩⟩
structure Lim (m:Nat) (s:De.St):Prop where
 len:∀ k,(zAI s k).length<=m
 big:∀ k,∀ z∈zAI s k,z.length<=70000
 tag:∀ p∈s.op,p.1<256
theorem Lim.zero:Lim 0 De.St.zero:=⟨fun k=>by unfold zAI De.St.zero;split <;> simp,fun k z hz=>by unfold zAI De.St.zero at hz;split at hz <;> simp at hz,by simp[De.St.zero]⟩
theorem Lim.mono {m k:Nat} {s:De.St} (h:Lim m s) (hm:m<=k):Lim k s:=⟨fun j=>Nat.le_trans (h.len j) hm,h.big,h.tag⟩
theorem Lim.err {m:Nat} {s:De.St} (h:Lim m s) (e:Nat):Lim m { s with e:=e }:=⟨h.len,h.big,h.tag⟩
theorem Lim.add {m:Nat} {s:De.St} {l:List Nat} (h:Lim m s) (hl:l.length<=70000):Lim (m+1) (De.add s l):=by
 refine⟨fun k=>?_,fun k z hz=>?_,fun p hp=>?_⟩
 ·by_cases hk:k<=s.op.length
  ·rw[zBZ s l k hk];have:=h.len k;split
   ·rw[List.length_append];simp;omega
   ·omega
  ·rw[zA6 _ (by rw[zBH];omega)];simp
 ·by_cases hk:k<=s.op.length
  ·rw[zBZ s l k hk]at hz;split at hz
   ·rcases List.mem_append.1 hz with hz|hz
    ·exact h.big k z hz
    ·rw[List.mem_singleton]at hz;rw[hz];exact hl
   ·exact h.big k z hz
  ·rw[zA6 _ (by rw[zBH];omega)]at hz;simp at hz
 ·obtain⟨e,op,dn⟩:=s
  match op,h with
  |[],h=>simp[De.add]at hp
  |(t,r) :: q,h =>
   rcases List.mem_cons.1 hp with rfl|hp
   ·exact h.tag (t,r) (by simp)
   ·exact h.tag p (by simp[hp])
theorem Lim.put {m:Nat} {s:De.St} {t:Nat} {l:List Nat} (h:Lim m s):Lim (m+1) (De.put s t l):=by
 unfold De.put;split
 ·exact(h.err 3).mono (by omega)
 ·refine h.add ?_;have h1:=Tl.more_le l.length
  show([t]++Tl.lenB l.length++l).length<=70000
  simp only[List.length_append,Tl.lenB_len,List.length_singleton];omega
theorem Lim.cls {m:Nat} {s:De.St} (h:Lim m s):Lim (m+1) (De.cls s):=by
 obtain⟨e,op,dn⟩:=s
 match op,h with
 |[],h=>exact(h.err 24).mono (by omega)
 |(t,l) :: r,h =>
  have hc:=zBj ⟨e,(t,l) :: r,dn⟩ (rfl:(⟨e,(t,l) :: r,dn⟩:De.St).op=(t,l) :: r);refine Lim.put (s:=⟨e,r,dn⟩) ⟨fun k=>?_,fun k z hz=>?_,fun p hp=>h.tag p (by simp[hp])⟩
  ·by_cases hk:k<=r.length
   ·have:=hc.1 k hk
    show(zAI ⟨e,r,dn⟩ k).length<=m
    rw[show zAI ⟨e,r,dn⟩ k=zAI ⟨e,(t,l) :: r,dn⟩ k from this];exact h.len k
   ·rw[zA6 _ (by show r.length<k;omega)];simp
  ·by_cases hk:k<=r.length
   ·have:=hc.1 k hk;rw[show zAI ⟨e,r,dn⟩ k=zAI ⟨e,(t,l) :: r,dn⟩ k from this]at hz;exact h.big k z hz
   ·rw[zA6 _ (by show r.length<k;omega)]at hz;simp at hz
theorem Lim.step {m:Nat} {s:De.St} {x:De.Val} (h:Lim m s):Lim (m+1) (De.step s x):=by
 unfold De.step;split
 ·exact h.mono (by omega)
 split
 ·unfold De.opn;split
  ·exact(h.err 5).mono (by omega)
  ·rename_i hmade
   split
   ·exact(h.err 6).mono (by omega)
   ·refine⟨fun k=>?_,fun k z hz=>?_,fun p hp=>?_⟩
    ·by_cases hk:k<=s.op.length+1
     ·have:=zBY s x.n.toNat k hk;unfold opd at this;rw[this];have:=h.len k;split
      ·simp
      ·omega
     ·rw[zA6 _ (by show s.op.length+1<k;omega)];simp
    ·by_cases hk:k<=s.op.length+1
     ·have:=zBY s x.n.toNat k hk;unfold opd at this;rw[this]at hz;split at hz
      ·simp at hz
      ·exact h.big k z hz
     ·rw[zA6 _ (by show s.op.length+1<k;omega)]at hz;simp at hz
    ·rcases List.mem_cons.1 hp with rfl|hp
     ·have:=Tl.made_nat x.n (by simpa using hmade)
      show x.n.toNat<256
      omega
     ·exact h.tag p hp
 split
 ·exact h.cls
 split
 ·unfold De.raw;split
  ·exact(h.err _).mono (by omega)
  ·rename_i m' hm'
   refine h.add ?_;unfold Tl.levels at hm';split at hm'
   ·exact absurd hm' (by simp)
   ·omega
 ·unfold De.plainV;split
  ·exact(h.err _).mono (by omega)
  ·exact h.put
theorem zCs {W0 w:World} {F:Nat->Prop} {b m:Nat} {s:De.St} (h:RefW W0 F b s w) (hl:Lim m s) (hm:m<=2000) (v:Value) (x:De.Val) (hv:ValV w v x) (hx:x.b.length<=1000000) :
  Calls prog 25 #[.pointer (some ⟨b,0,none⟩),v] w fun e w'=>e=.returned (.tuple #[])/\Upto F w w'/\RefW W0 (Ext F w w') b (De.step s x) w':=by
 have hsm:∀ k,(zAI s k).length<=2000:=fun k=>Nat.le_trans (hl.len k) hm
 by_cases he:s.e=0
 ·by_cases k1:x.kind=1
  ·by_cases hmd:Tl.made x.n=true
   ·by_cases hK:s.op.length<16
    ·exact zF2 h he v x hv k1 hmd hK
    ·exact zDs h he v x hv k1 (.inr (by omega))
   ·exact zDs h he v x hv k1 (.inl (by simpa using hmd))
  ·by_cases k2:x.kind=2
   ·cases hop:s.op with
    |nil=>exact zE7 h he v x hv k2 hop
    |cons p r =>
     obtain⟨t,l⟩:=p;exact zE6 h he hsm hl.big v x hv k2 hop (hl.tag (t,l) (by rw[hop];simp))
   ·by_cases k11:x.kind=11
    ·exact zID h he hsm v x hv k11 hx
    ·exact zF1 h he hsm v x hv k1 k2 k11
 ·have hst:De.step s x=s:=by unfold De.step;rw[if_pos he]
  rw[hst];exact zIE h he v x hv
def ImM (W0:World) (F M:Nat->Prop) (k:Nat):Prop:=Or0 W0 F k/\¬ M k
def MutP (b:Nat) (ov dv:Value) (n:Nat) (pv:Nat->Value) (k:Nat):Prop:=k=b∨ov.ownBlock=some k∨dv.ownBlock=some k∨∃ j,j<n/\(pv j).ownBlock=some k
theorem zBf {W0 w w':World} {F M M':Nat->Prop} {P:World->Prop} (hb:W0.grownBy w none) (hF:∀ k,F k->W0.heap.size<=k/\k<w.heap.size) (h:Sup (ImM W0 F M) w P) (hu:Upto M w w')
  (hr:∀ k,k<w.heap.size->M' k->M k):Sup (ImM W0 (Ext F w w') M') w' P:=by
 have h1:Sup (ImM W0 F M) w' P:=h.upto hu (fun k hk hm=>hk.2 hm);refine h1.mono (fun k hk=>⟨hk.1.imp (fun h=>.inl h) id,fun hm=>hk.2 (hr k (h.lt k hk) hm)⟩) (fun k hk=>?_);have:=hb.size;have:=hu.size;rcases hk.1 with h2|h2
 ·exact(zAo hb hF hu.size k h2).2
 ·omega
def Parts (I:Nat->Prop) (w:World) (v:Value) (L:List (List Nat)):Prop:=∃ ys,w.ownsRow 0 33 1 v ys.length ys/\Sup I w (fun W=>Each W ys L)
structure PwR (W0:World) (F:Nat->Prop) (b:Nat) (ov dv:Value) (n:Nat) (pv:Nat->Value) (s:De.St) (w:World):Prop where
 len:n=s.op.length
 deep:n<=16
 mine:∀ k,MutP b ov dv n pv k->F k
 rov:ov.ownBlock≠some b
 rdv:dv.ownBlock≠some b
 rpv:∀ j,j<n->(pv j).ownBlock≠some b
 apart:∀ i j,i<n->j<n->i≠j->∀ k,(pv i).ownBlock=some k->(pv j).ownBlock≠some k
 opens:∃ xs,w.ownsRow 0 101 2 ov n xs/\∀ j,j<n->xs[2*j]?=some (.int .i64 ((zAZ s).getD j 0))/\xs[2*j+1]?=some (pv j)
 dones:w.ownsRow 0 5 1 dv s.dn.flatten.length (cellsL s.dn.flatten)
 dlt:∀ x∈s.dn.flatten,x<256
 parts:∀ j,j<n->Parts (ImM W0 F (MutP b ov dv n pv)) w (pv j) (zAI s (j+1))
structure PrW (A:Nat->Addr) (W0:World) (F:Nat->Prop) (b:Nat) (s:De.St) (w:World):Prop where
 base:W0.grownBy w none
 own:∀ k,F k->W0.heap.size<=k/\k<w.heap.size
 mem:F b
 body:∃ ov dv,w.heap[b]?=some (.cells #[ov,dv,zAu A s.e] 55 (0,0))/\(s.e=0->∃ n pv,PwR W0 F b ov dv n pv s w)
theorem zAM {w w':World} {M:Nat->Prop} {base:Nat} {e:TypeId} {sz:Nat} {v:Value} {n:Nat} {xs:List Value} (h:w.ownsRow base e sz v n xs) (hu:Upto M w w') (hm:∀ k,v.ownBlock=some k->¬ M k):w'.ownsRow base e sz v n xs:=by
 refine⟨h.1,?_⟩;rcases h.2 with h1|⟨g,cap,cur,rfl,h2,h3,h4⟩
 ·exact .inl h1
 ·exact .inr ⟨g,cap,cur,rfl,h2,(hu.block g (zAi h3) (hm g rfl)).trans h3,h4⟩
section
variable {A:Nat->Addr} {W0 w w':World} {F:Nat->Prop} {b:Nat} {ov dv:Value} {n:Nat} {pv:Nat->Value} {s:De.St}
theorem Parts.keep {M M' T:Nat->Prop} {v:Value} {L:List (List Nat)} (hb:W0.grownBy w none) (hF:∀ k,F k->W0.heap.size<=k/\k<w.heap.size) (h:Parts (ImM W0 F M) w v L) (hu:Upto T w w') (hT:∀ k,T k->M k)
  (hr:∀ k,k<w.heap.size->M' k->M k) (hv:∀ k,v.ownBlock=some k->¬ T k):Parts (ImM W0 (Ext F w w') M') w' v L:=by
 obtain⟨ys,h1,h2⟩:=h;exact⟨ys,zAM h1 hu hv,zBf hb hF h2 (hu.mono (fun k _ hk=>hT k hk)) hr⟩
theorem PrW.iff (h:PrW A W0 F b s w) {G:Nat->Prop} (hG:∀ k,G k↔F k):PrW A W0 G b s w:=by
 have e:G=F:=funext fun k=>propext (hG k)
 rw[e];exact h
theorem PwR.ov_dv (h:PwR W0 F b ov dv n pv s w) {k:Nat} (hk:ov.ownBlock=some k):dv.ownBlock≠some k:=by
 obtain⟨xs,h1,_⟩:=h.opens;exact zBO h1 h.dones (by decide) hk
theorem PwR.ov_pv (h:PwR W0 F b ov dv n pv s w) {k:Nat} (hk:ov.ownBlock=some k) {j:Nat} (hj:j<n):(pv j).ownBlock≠some k:=by
 obtain⟨xs,h1,_⟩:=h.opens;obtain⟨ys,h2,_⟩:=h.parts j hj;exact zBO h1 h2 (by decide) hk
theorem PwR.dv_pv (h:PwR W0 F b ov dv n pv s w) {k:Nat} (hk:dv.ownBlock=some k) {j:Nat} (hj:j<n):(pv j).ownBlock≠some k:=by
 obtain⟨ys,h2,_⟩:=h.parts j hj;exact zBO h.dones h2 (by decide) hk
theorem PwR.other {G:Nat->Prop} (hb:W0.grownBy w none) (h:PwR W0 F b ov dv n pv s w) (hG:∀ k,G k->W0.heap.size<=k) (hu:Upto G w w') (ha:Apart G F):PwR W0 F b ov dv n pv s w':=by
 have hm:∀ k,MutP b ov dv n pv k->¬ G k:=fun k hk hg=>ha k hg (h.mine k hk)
 have hi:∀ k,ImM W0 F (MutP b ov dv n pv) k->¬ G k:=fun k hk hg=>by
  rcases hk.1 with hf|hl
  ·exact ha k hg hf
  ·have:=hG k hg;omega
 obtain⟨xs,h1,h2⟩:=h.opens;refine⟨h.len,h.deep,h.mine,h.rov,h.rdv,h.rpv,h.apart,⟨xs,zAM h1 hu (fun k hk=>hm k (.inr (.inl hk))),h2⟩,zAM h.dones hu (fun k hk=>hm k (.inr (.inr (.inl hk)))),h.dlt,fun j hj=>?_⟩;obtain⟨ys,k1,k2⟩:=h.parts j hj;exact⟨ys,zAM k1 hu (fun k hk=>hm k (.inr (.inr (.inr ⟨j,hj,hk⟩)))),k2.upto hu hi⟩
theorem PrW.other {G G':Nat->Prop} (h:PrW A W0 F b s w) (hG:∀ k,G k->W0.heap.size<=k) (ht:Turn G G' w w') (ha:Apart G F):PrW A W0 F b s w':=by
 obtain⟨ov,dv,h1,h2⟩:=h.body;refine⟨ht.upto.base h.base hG,fun k hk=>⟨(h.own k hk).1,Nat.lt_of_lt_of_le (h.own k hk).2 ht.upto.size⟩,h.mem,ov,dv,?_,fun he=>?_⟩
 ·rw[ht.upto.block b (h.own b h.mem).2 (fun hg=>ha b hg h.mem)];exact h1
 ·obtain⟨n,pv,hR⟩:=h2 he;exact⟨n,pv,hR.other h.base hG ht.upto ha⟩
theorem PrW.still (h:PrW A W0 F b s w) (hg:w.grownBy w' none):PrW A W0 F b s w' :=
 h.other (G:=fun _=>False) (G':=fun _=>False) (fun _ h=>h.elim) (Turn.of_grown hg) (fun _ h=>h.elim)
theorem PwR.wide {G:Nat->Prop} (hb:W0.grownBy w none) (h:PwR W0 F b ov dv n pv s w) (hFG:∀ k,F k->G k) (hG:∀ k,G k->W0.heap.size<=k/\k<w.heap.size):PwR W0 G b ov dv n pv s w:=by
 refine⟨h.len,h.deep,fun k hk=>hFG k (h.mine k hk),h.rov,h.rdv,h.rpv,h.apart,h.opens,h.dones,h.dlt,fun j hj=>?_⟩;obtain⟨ys,k1,k2⟩:=h.parts j hj;refine⟨ys,k1,k2.mono (fun k hk=>⟨hk.1.imp (hFG k) id,hk.2⟩) (fun k hk=>?_)⟩;rcases hk.1 with hk|hk
 ·exact(hG k hk).2
 ·exact Nat.lt_of_lt_of_le hk hb.size
theorem PrW.wide {G:Nat->Prop} (h:PrW A W0 F b s w) (hFG:∀ k,F k->G k) (hG:∀ k,G k->W0.heap.size<=k/\k<w.heap.size):PrW A W0 G b s w:=by
 obtain⟨ov,dv,h1,h2⟩:=h.body;refine⟨h.base,hG,hFG b h.mem,ov,dv,h1,fun he=>?_⟩;obtain⟨n,pv,hR⟩:=h2 he;exact⟨n,pv,hR.wide h.base hFG hG⟩
theorem PrW.grow (h:PrW A W0 F b s w) (hg:w.grownBy w' none):PrW A W0 (Ext F w w') b s w' :=
 (h.still hg).wide (fun k hk=>.inl hk) (zAo h.base h.own hg.size)
theorem PrW.join {w5:World} {s':De.St} (hb:W0.grownBy w none) (hF:∀ k,F k->W0.heap.size<=k/\k<w.heap.size) (hu:Upto F w w5) (h:Upto F w5 w'/\PrW A W0 (Ext F w5 w') b s' w'):Upto F w w'/\PrW A W0 (Ext F w w') b s' w':=by
 have h1:=h.1.size;have h2:=hu.size;refine⟨hu.trans h.1 (fun k hk hf=>hf),h.2.wide (fun k hk=>?_) (zAo hb hF (by omega))⟩;rcases hk with hk|hk
 ·exact .inl hk
 ·exact .inr (by omega)
theorem PrW.join2 {w5:World} {s' s5:De.St} (h:PrW A W0 F b s w) (h5:Upto F w w5/\PrW A W0 (Ext F w w5) b s5 w5) (h6:Upto (Ext F w w5) w5 w'/\PrW A W0 (Ext (Ext F w w5) w5 w') b s' w'):Upto F w w'/\PrW A W0 (Ext F w w') b s' w':=by
 have h1:=h5.1.size;have h2:=h6.1.size;refine⟨h5.1.trans h6.1 (fun k hk hf=>?_),h6.2.iff (fun k=>(Ext.trans h1 h2 k).symm)⟩;rcases hf with hf|hf
 ·exact hf
 ·omega
theorem PrW.err (h:PrW A W0 F b s w) (m:Nat) (hm:m≠0):Upto F w (w.setCell ⟨b,2,none⟩ (errV A m))/\PrW A W0 (Ext F w (w.setCell ⟨b,2,none⟩ (errV A m))) b { s with e:=m } (w.setCell ⟨b,2,none⟩ (errV A m)):=by
 obtain⟨ov,dv,h1,_⟩:=h.body;have hs:(w.setCell ⟨b,2,none⟩ (errV A m)).heap.size=w.heap.size:=zAk _ _ _;have hu:Upto F w (w.setCell ⟨b,2,none⟩ (errV A m)):=⟨rfl,rfl,rfl,by omega,fun k hk hmu=>Below.heap_setCell _ _ _ _ (fun e=>hmu (by rw[e];exact h.mem))⟩;refine⟨hu,hu.base h.base (fun k hk=>(h.own k hk).1),zAo h.base h.own hu.size,.inl h.mem,ov,dv,?_,fun he=>absurd he hm⟩;have:=zAm (i:=2) h1 (errV A m);unfold zAu;rw[if_neg hm];simpa using this
end
theorem zA8 {w:World} {b i:Nat} {v:Value} {M:Nat->Prop} (hm:M b):Upto M w (w.setCell ⟨b,i,none⟩ v) :=
 ⟨rfl,rfl,rfl,by rw[zAk];exact Nat.le_refl _,fun k hk hmu=>Below.heap_setCell _ _ _ _ (fun e=>hmu (by rw[e];exact hm))⟩
theorem zB3 (s:De.St):(zAZ s).length=s.op.length:=zAJ s
section
variable {A:Nat->Addr} {W0 w w1 w2 w':World} {F:Nat->Prop} {b:Nat} {ov dv v':Value} {n:Nat} {pv:Nat->Value} {s:De.St}
theorem PwR.lt (hF:∀ k,F k->W0.heap.size<=k/\k<w.heap.size) (h:PwR W0 F b ov dv n pv s w):∀ k,MutP b ov dv n pv k->k<w.heap.size:=fun k hk=>(hF k (h.mine k hk)).2
theorem PwR.opened {t:Nat} {xs:List Value} (hb:W0.grownBy w none) (hF:∀ k,F k->W0.heap.size<=k/\k<w.heap.size) (hm:F b) (he:s.e=0) (hc:w.heap[b]?=some (.cells #[ov,dv,.nilIface] 55 (0,0)))
  (h:PwR W0 F b ov dv n pv s w) (hn:n<16) (hxs:w.ownsRow 0 101 2 ov n xs) (hxj:∀ j,j<n->xs[2*j]?=some (.int .i64 ((zAZ s).getD j 0))/\xs[2*j+1]?=some (pv j))
  (h1:w.grownBy w1 none) (ho:w2.ownsRow 0 101 2 v' (n+1) (xs++[.int .i64 (t:Int),.slice none 0 0])) (hg:w1.grownBy w2 ov.ownBlock) (hv:v'.ownBlock=ov.ownBlock∨v'.ownBlock=some w1.heap.size) :
  Upto F w (w2.setCell ⟨b,0,none⟩ v')/\PrW A W0 (Ext F w (w2.setCell ⟨b,0,none⟩ v')) b (opd s t) (w2.setCell ⟨b,0,none⟩ v'):=by
 have hs1:=h1.size;have hs2:=hg.size;have hs3:(w2.setCell ⟨b,0,none⟩ v').heap.size=w2.heap.size:=zAk _ _ _;have hbl:=(hF b hm).2;have hbv:v'.ownBlock≠some b:=fun e=>by
  rcases hv with h'|h'
  ·rw[h']at e;exact h.rov e
  ·rw[h']at e;have:=Option.some.inj e;omega
 have hT:Upto (fun k=>k=b∨ov.ownBlock=some k) w (w2.setCell ⟨b,0,none⟩ v') :=
  ((Upto.of_grown _ h1).trans (Upto.of_row hg (fun k hk=>.inl (.inr hk))) (fun _ _ h=>h)).trans (zA8 (.inl rfl)) (fun _ _ h=>h)
 have hTM:∀ k,(k=b∨ov.ownBlock=some k)->MutP b ov dv n pv k:=fun k hk=>by
  rcases hk with hk|hk
  ·exact .inl hk
  ·exact .inr (.inl hk)
 have hu:Upto F w (w2.setCell ⟨b,0,none⟩ v'):=hT.mono (fun k _ hk=>h.mine k (hTM k hk));obtain⟨pw,hpw⟩:∃ pw:Nat->Value,pw=fun j=>if j=n then .slice none 0 0 else pv j:=⟨_,rfl⟩
 have hpo:∀ j,j<n->pw j=pv j:=fun j hj=>by rw[hpw];exact if_neg (by omega)
 have hpn:pw n=.slice none 0 0:=by rw[hpw];exact if_pos rfl
 have hcame:∀ k,k<w.heap.size->MutP b v' dv (n+1) pw k->MutP b ov dv n pv k:=fun k hk hmu=>by
  rcases hmu with hmu|hmu|hmu|⟨j,hj,hmu⟩
  ·exact .inl hmu
  ·rcases hv with h'|h'
   ·exact .inr (.inl (h' ▸ hmu))
   ·rw[h']at hmu;have:=Option.some.inj hmu;omega
  ·exact .inr (.inr (.inl hmu))
  ·by_cases e:j=n
   ·rw[e,hpn]at hmu;exact absurd hmu (by simp[Value.ownBlock])
   ·rw[hpo j (by omega)]at hmu;exact .inr (.inr (.inr ⟨j,by omega,hmu⟩))
 have hown2:=zAL (i:=0) (u:=v') ho hbv;refine⟨hu,hu.base hb (fun k hk=>(hF k hk).1),zAo hb hF hu.size,.inl hm,v',dv,?_,fun _=>⟨n+1,pw,by rw[h.len];rfl,by omega,fun k hk=>?_,hbv,h.rdv,fun j hj=>?_,fun i j hi hj hij k hk=>?_,⟨_,hown2,fun j hj=>?_⟩,zAM h.dones hT (fun k hk hmu=>?_),h.dlt,fun j hj=>?_⟩⟩
 ·have hc2:=(hg.block b (by omega) (fun e=>h.rov e.symm)).trans ((h1.block b hbl (by simp)).trans hc);have:=zAm (i:=0) hc2 v';unfold zAu;rw[show(opd s t).e=0 from he,if_pos rfl];simpa using this
 ·by_cases hkl:k<w.heap.size
  ·exact .inl (h.mine k (hcame k hkl hk))
  ·refine .inr ⟨by omega,?_⟩;rcases hk with hk|hk|hk|⟨j,hj,hk⟩
   ·omega
   ·exact zIW hown2 hk
   ·have:=h.lt hF k (.inr (.inr (.inl hk)));omega
   ·by_cases e:j=n
    ·rw[e,hpn]at hk;exact absurd hk (by simp[Value.ownBlock])
    ·rw[hpo j (by omega)]at hk;have:=h.lt hF k (.inr (.inr (.inr ⟨j,by omega,hk⟩)));omega
 ·by_cases e:j=n
  ·rw[e,hpn];simp[Value.ownBlock]
  ·rw[hpo j (by omega)];exact h.rpv j (by omega)
 ·by_cases ei:i=n
  ·rw[ei,hpn]at hk;exact absurd hk (by simp[Value.ownBlock])
  ·by_cases ej:j=n
   ·rw[ej,hpn];simp[Value.ownBlock]
   ·rw[hpo i (by omega)]at hk;rw[hpo j (by omega)];exact h.apart i j (by omega) (by omega) hij k hk
 ·have hxl:xs.length=n*2:=hxs.1;by_cases e:j=n
  ·subst e;rw[hpn,zCI];refine⟨?_,?_⟩
   ·rw[List.getElem?_append_right (by omega),hxl,show 2*j-j*2=0 by omega,List.getD_eq_getElem?_getD,List.getElem?_append_right (by rw[zB3,h.len];exact Nat.le_refl _),zB3,h.len];simp
   ·rw[List.getElem?_append_right (by omega),hxl,show 2*j+1-j*2=1 by omega];rfl
  ·rw[hpo j (by omega),zCI,List.getElem?_append_left (by omega),List.getElem?_append_left (by omega),List.getD_eq_getElem?_getD,List.getElem?_append_left (by rw[zB3,<-h.len];omega),<-List.getD_eq_getElem?_getD];exact hxj j (by omega)
 ·rcases hmu with rfl|hmu
  ·exact h.rdv hk
  ·exact h.ov_dv hmu hk
 ·by_cases e:j=n
  ·rw[e,hpn,h.len,zBY s t _ (by omega),if_pos rfl];refine⟨[],⟨rfl,.inl ⟨rfl,rfl⟩⟩,fun k hk=>?_,fun _ _=>trivial⟩;have:=hu.size;have:=hb.size;rcases hk.1 with hk|hk
   ·exact(zAo hb hF hu.size k hk).2
   ·omega
  ·rw[hpo j (by omega),zBY s t _ (by rw[<-h.len];omega),if_neg (by rw[<-h.len];omega)];exact(h.parts j (by omega)).keep hb hF hT hTM hcame (fun k hk hmu=>by
    rcases hmu with rfl|hmu
    ·exact h.rpv j (by omega) hk
    ·exact h.ov_pv hmu (by omega) hk)
theorem PwR.closed {t g c:Nat} {l:List (List Nat)} {r:List (Nat×List (List Nat))} (hb:W0.grownBy w none) (hF:∀ k,F k->W0.heap.size<=k/\k<w.heap.size) (hm:F b) (he:s.e=0) (hop:s.op=(t,l) :: r)
  (hc:w.heap[b]?=some (.cells #[.slice (some ⟨g,0,none⟩) n c,dv,.nilIface] 55 (0,0))) (h:PwR W0 F b (.slice (some ⟨g,0,none⟩) n c) dv n pv s w) :
  Upto F w (w.setCell ⟨b,0,none⟩ (.slice (some ⟨g,0,none⟩) r.length c))/\PrW A W0 F b { s with op:=r } (w.setCell ⟨b,0,none⟩ (.slice (some ⟨g,0,none⟩) r.length c)) /\
   Parts (ImM W0 F (MutP b (.slice (some ⟨g,0,none⟩) n c) dv n pv)) (w.setCell ⟨b,0,none⟩ (.slice (some ⟨g,0,none⟩) r.length c)) (pv r.length) l:=by
 have hnr:n=r.length+1:=by rw[h.len,hop];rfl
 have hT:Upto (fun k=>k=b) w (w.setCell ⟨b,0,none⟩ (.slice (some ⟨g,0,none⟩) r.length c)):=zA8 rfl;have hu:Upto F w (w.setCell ⟨b,0,none⟩ (.slice (some ⟨g,0,none⟩) r.length c)):=hT.mono (fun k _ hk=>by rw[hk];exact hm);have hs:(w.setCell ⟨b,0,none⟩ (.slice (some ⟨g,0,none⟩) r.length c)).heap.size=w.heap.size:=zAk _ _ _;have hcame:∀ k,MutP b (.slice (some ⟨g,0,none⟩) r.length c) dv r.length pv k->MutP b (.slice (some ⟨g,0,none⟩) n c) dv n pv k:=fun k hmu=>by
  rcases hmu with hmu|hmu|hmu|⟨j,hj,hmu⟩
  ·exact .inl hmu
  ·exact .inr (.inl hmu)
  ·exact .inr (.inr (.inl hmu))
  ·exact .inr (.inr (.inr ⟨j,by omega,hmu⟩))
 have hpk:∀ j,j<n->Parts (ImM W0 F (MutP b (.slice (some ⟨g,0,none⟩) n c) dv n pv)) (w.setCell ⟨b,0,none⟩ (.slice (some ⟨g,0,none⟩) r.length c)) (pv j) (zAI s (j+1)):=fun j hj=>by
  obtain⟨ys,k1,k2⟩:=h.parts j hj;exact⟨ys,zAM k1 hT (fun k hk e=>h.rpv j hj (e ▸ hk)),k2.upto hT (fun k hk e=>hk.2 (.inl e))⟩
 obtain⟨xs,hx1,hx2⟩:=h.opens;have hlc:=zBj s hop;have htc:=zB4 s hop;refine⟨hu,⟨hu.base hb (fun k hk=>(hF k hk).1),fun k hk=>by rw[hs];exact hF k hk,hm,.slice (some ⟨g,0,none⟩) r.length c,dv,?_,fun _=>⟨r.length,pv,rfl,by have:=h.deep;omega,fun k hk=>h.mine k (hcame k hk),h.rov,h.rdv,fun j hj=>h.rpv j (by omega),fun i j hi hj=>h.apart i j (by omega) (by omega),⟨xs.take (r.length*2),zAM (zGO hx1 (by omega)) hT (fun k hk e=>h.rov (e ▸ hk)),fun j hj=>?_⟩,zAM h.dones hT (fun k hk e=>h.rdv (e ▸ hk)),h.dlt,fun j hj=>?_⟩⟩,?_⟩
 ·have:=zAm (i:=0) hc (.slice (some ⟨g,0,none⟩) r.length c);unfold zAu;rw[show({ s with op:=r }:De.St).e=0 from he,if_pos rfl];simpa using this
 ·have h3:=hx2 j (by omega);rw[htc,List.getD_eq_getElem?_getD,List.getElem?_append_left (by rw[zB3];exact hj),<-List.getD_eq_getElem?_getD]at h3;rw[List.getElem?_take,List.getElem?_take,if_pos (by omega),if_pos (by omega)];exact h3
 ·rw[hlc.1 (j+1) (by omega)];obtain⟨ys,k1,k2⟩:=hpk j (by omega);refine⟨ys,k1,k2.mono (fun k hk=>⟨hk.1,fun hmu=>hk.2 (hcame k hmu)⟩) (fun k hk=>?_)⟩;rw[hs];rcases hk.1 with hk|hk
  ·exact(hF k hk).2
  ·exact Nat.lt_of_lt_of_le hk hb.size
 ·have:=hpk r.length (by omega);rwa [hlc.2]at this
theorem zJv (s:De.St) (l:List Nat) (h:0<s.op.length):(De.add s l).dn=s.dn:=by
 obtain⟨e,op,dn⟩:=s
 match op with
 |[]=>simp at h
 |(t,r) :: q=>rfl
theorem zHT (s:De.St) (l:List Nat) (h:s.op.length=0):(De.add s l).dn=s.dn++[l]/\(De.add s l).op=s.op:=by
 obtain⟨e,op,dn⟩:=s
 match op with
 |[]=>exact⟨rfl,rfl⟩
 |(t,r) :: q=>simp at h
theorem PwR.added0 {l:List Nat} (hb:W0.grownBy w none) (hF:∀ k,F k->W0.heap.size<=k/\k<w.heap.size) (hm:F b) (he:s.e=0) (h0:n=0) (hc:w.heap[b]?=some (.cells #[ov,dv,.nilIface] 55 (0,0)))
  (h:PwR W0 F b ov dv n pv s w) (hl:∀ x∈l,x<256) (h1:w.grownBy w1 none) (ho:w2.ownsRow 0 5 1 v' (s.dn.flatten.length+l.length) (cellsL s.dn.flatten++cellsL l)) (hg:w1.grownBy w2 dv.ownBlock) (hv:v'.ownBlock=dv.ownBlock∨v'.ownBlock=some w1.heap.size) :
  Upto F w (w2.setCell ⟨b,1,none⟩ v')/\PrW A W0 (Ext F w (w2.setCell ⟨b,1,none⟩ v')) b (De.add s l) (w2.setCell ⟨b,1,none⟩ v'):=by
 subst h0;have hs1:=h1.size;have hs2:=hg.size;have hs3:(w2.setCell ⟨b,1,none⟩ v').heap.size=w2.heap.size:=zAk _ _ _;have hbl:=(hF b hm).2;have hop0:s.op.length=0:=h.len.symm;obtain⟨hdn,hop⟩:=zHT s l hop0;have hbv:v'.ownBlock≠some b:=fun e=>by
  rcases hv with h'|h'
  ·rw[h']at e;exact h.rdv e
  ·rw[h']at e;have:=Option.some.inj e;omega
 have hT:Upto (fun k=>k=b∨dv.ownBlock=some k) w (w2.setCell ⟨b,1,none⟩ v') :=
  ((Upto.of_grown _ h1).trans (Upto.of_row hg (fun k hk=>.inl (.inr hk))) (fun _ _ h=>h)).trans (zA8 (.inl rfl)) (fun _ _ h=>h)
 have hTM:∀ k,(k=b∨dv.ownBlock=some k)->MutP b ov dv 0 pv k:=fun k hk=>by
  rcases hk with hk|hk
  ·exact .inl hk
  ·exact .inr (.inr (.inl hk))
 have hu:Upto F w (w2.setCell ⟨b,1,none⟩ v'):=hT.mono (fun k _ hk=>h.mine k (hTM k hk));have hown2:=zAL (i:=1) (u:=v') ho hbv;obtain⟨xs,hx1,hx2⟩:=h.opens;refine⟨hu,hu.base hb (fun k hk=>(hF k hk).1),zAo hb hF hu.size,.inl hm,ov,v',?_,fun _=>⟨0,pv,by rw[hop];exact h.len,h.deep,fun k hk=>?_,h.rov,hbv,fun j hj=>absurd hj (by omega),fun i j hi=>absurd hi (by omega),⟨xs,zAM hx1 hT (fun k hk hmu=>?_),fun j hj=>absurd hj (by omega)⟩,?_,fun x hx=>?_,fun j hj=>absurd hj (by omega)⟩⟩
 ·have hc2:=(hg.block b (by omega) (fun e=>h.rdv e.symm)).trans ((h1.block b hbl (by simp)).trans hc);have:=zAm (i:=1) hc2 v';unfold zAu;rw[zLT,he,if_pos rfl];simpa using this
 ·rcases hk with hk|hk|hk|⟨j,hj,hk⟩
  ·exact .inl (hk ▸ hm)
  ·exact .inl (h.mine k (.inr (.inl hk)))
  ·rcases hv with h'|h'
   ·exact .inl (h.mine k (.inr (.inr (.inl (h' ▸ hk)))))
   ·have h2:=zIW hown2 hk;rw[h']at hk;have:=Option.some.inj hk;exact .inr ⟨by omega,h2⟩
  ·omega
 ·rcases hmu with rfl|hmu
  ·exact h.rov hk
  ·exact h.ov_dv hk hmu
 ·rw[hdn,List.flatten_append,List.length_append,zAn];simpa using hown2
 ·rw[hdn,List.flatten_append,List.mem_append]at hx;rcases hx with hx|hx
  ·exact h.dlt x hx
  ·exact hl x (by simpa using hx)
theorem PwR.added1 {l:List Nat} {g c m:Nat} {x:Value} {ys:List Value} (hb:W0.grownBy w none) (hF:∀ k,F k->W0.heap.size<=k/\k<w.heap.size) (hm:F b) (he:s.e=0) (hn:n=m+1) (hc:w.heap[b]?=some (.cells #[.slice (some ⟨g,0,none⟩) n c,dv,.nilIface] 55 (0,0)))
  (h:PwR W0 F b (.slice (some ⟨g,0,none⟩) n c) dv n pv s w) (hys:w.ownsRow 0 33 1 (pv m) ys.length ys) (hyE:Sup (ImM W0 F (MutP b (.slice (some ⟨g,0,none⟩) n c) dv n pv)) w (fun W=>Each W ys (zAI s n)))
  (hx:Sup (ImM W0 F (MutP b (.slice (some ⟨g,0,none⟩) n c) dv n pv)) w (fun W=>Bytes W x l/\Whole0 x))
  (h1:w.grownBy w1 none) (ho:w2.ownsRow 0 33 1 v' (ys.length+1) (ys++[x])) (hg:w1.grownBy w2 (pv m).ownBlock) (hv:v'.ownBlock=(pv m).ownBlock∨v'.ownBlock=some w1.heap.size) :
  Upto F w (w2.setCell ⟨g,2*m+1,none⟩ v')/\PrW A W0 (Ext F w (w2.setCell ⟨g,2*m+1,none⟩ v')) b (De.add s l) (w2.setCell ⟨g,2*m+1,none⟩ v'):=by
 have hs1:=h1.size;have hs2:=hg.size;have hs3:(w2.setCell ⟨g,2*m+1,none⟩ v').heap.size=w2.heap.size:=zAk _ _ _;have hbl:=(hF b hm).2;have hgl:g<w.heap.size:=h.lt hF g (.inr (.inl rfl));have hgb:g≠b:=fun e=>h.rov (by rw[e];rfl)
 have hgp:∀ j,j<n->(pv j).ownBlock≠some g:=fun j hj=>h.ov_pv rfl hj
 have hgv:v'.ownBlock≠some g:=fun e=>by
  rcases hv with h'|h'
  ·rw[h']at e;exact hgp m (by omega) e
  ·rw[h']at e;have:=Option.some.inj e;omega
 have hT:Upto (fun k=>k=g∨(pv m).ownBlock=some k) w (w2.setCell ⟨g,2*m+1,none⟩ v') :=
  ((Upto.of_grown _ h1).trans (Upto.of_row hg (fun k hk=>.inl (.inr hk))) (fun _ _ h=>h)).trans (zA8 (.inl rfl)) (fun _ _ h=>h)
 have hTM:∀ k,(k=g∨(pv m).ownBlock=some k)->MutP b (.slice (some ⟨g,0,none⟩) n c) dv n pv k:=fun k hk=>by
  rcases hk with hk|hk
  ·exact .inr (.inl (by rw[hk];rfl))
  ·exact .inr (.inr (.inr ⟨m,by omega,hk⟩))
 have hu:Upto F w (w2.setCell ⟨g,2*m+1,none⟩ v'):=hT.mono (fun k _ hk=>h.mine k (hTM k hk));obtain⟨pw,hpw⟩:∃ pw:Nat->Value,pw=fun j=>if j=m then v' else pv j:=⟨_,rfl⟩
 have hpo:∀ j,j≠m->pw j=pv j:=fun j hj=>by rw[hpw];exact if_neg hj
 have hpm:pw m=v':=by rw[hpw];exact if_pos rfl
 have hown2:=zAL (i:=2*m+1) (u:=v') ho hgv;have hcame:∀ k,k<w.heap.size->MutP b (.slice (some ⟨g,0,none⟩) n c) dv n pw k->MutP b (.slice (some ⟨g,0,none⟩) n c) dv n pv k:=fun k hk hmu=>by
  rcases hmu with hmu|hmu|hmu|⟨j,hj,hmu⟩
  ·exact .inl hmu
  ·exact .inr (.inl hmu)
  ·exact .inr (.inr (.inl hmu))
  ·by_cases e:j=m
   ·subst e;rw[hpm]at hmu;rcases hv with h'|h'
    ·exact .inr (.inr (.inr ⟨j,hj,h' ▸ hmu⟩))
    ·rw[h']at hmu;have:=Option.some.inj hmu;omega
   ·rw[hpo j e]at hmu;exact .inr (.inr (.inr ⟨j,hj,hmu⟩))
 obtain⟨xs,hx1,hx2⟩:=h.opens;have hxl:xs.length=n*2:=hx1.1;have hb2:(w2.setCell ⟨g,2*m+1,none⟩ v').heap[b]?=some (.cells #[.slice (some ⟨g,0,none⟩) n c,dv,.nilIface] 55 (0,0)) :=
  (hT.block b hbl (fun hk=>by
   rcases hk with hk|hk
   ·exact hgb hk.symm
   ·exact h.rpv m (by omega) hk)).trans hc
 have ho2:w2.ownsRow 0 101 2 (.slice (some ⟨g,0,none⟩) n c) n xs:=(hx1.kept h1 (Classical.em _)).kept hg (.inr (fun e=>hgp m (by omega) e.symm));have hopl:n=(De.add s l).op.length:=by rw[zBH];exact h.len
 have hdn:=zJv s l (by rw[<-h.len];omega);refine⟨hu,hu.base hb (fun k hk=>(hF k hk).1),zAo hb hF hu.size,.inl hm,.slice (some ⟨g,0,none⟩) n c,dv,?_,fun _=>⟨n,pw,hopl,h.deep,fun k hk=>?_,h.rov,h.rdv,fun j hj=>?_,fun i j hi hj hij k hk=>?_,⟨_,zJ9 ho2 (K:=2*m+1) v',fun j hj=>?_⟩,?_,by rw[hdn];exact h.dlt,fun j hj=>?_⟩⟩
 ·rw[hb2,zLT,he];rfl
 ·by_cases hkl:k<w.heap.size
  ·exact .inl (h.mine k (hcame k hkl hk))
  ·refine .inr ⟨by omega,?_⟩;rcases hk with hk|hk|hk|⟨j,hj,hk⟩
   ·omega
   ·have:=h.lt hF k (.inr (.inl hk));omega
   ·have:=h.lt hF k (.inr (.inr (.inl hk)));omega
   ·by_cases e:j=m
    ·subst e;rw[hpm]at hk;exact zIW hown2 hk
    ·rw[hpo j e]at hk;have:=h.lt hF k (.inr (.inr (.inr ⟨j,hj,hk⟩)));omega
 ·by_cases e:j=m
  ·subst e;rw[hpm];intro e;rcases hv with h'|h'
   ·rw[h']at e;exact h.rpv j hj e
   ·rw[h']at e;have:=Option.some.inj e;omega
  ·rw[hpo j e];exact h.rpv j hj
 ·have old:∀ j,j<n->∀ k,(pv j).ownBlock=some k->k<w.heap.size:=fun j hj k hk=>h.lt hF k (.inr (.inr (.inr ⟨j,hj,hk⟩)))
  by_cases ei:i=m
  ·subst ei;rw[hpm]at hk;rw[hpo j (Ne.symm hij)];intro hk2;have hj2:=old j hj k hk2;rcases hv with h'|h'
   ·rw[h']at hk;exact h.apart i j hi hj hij k hk hk2
   ·rw[h']at hk;have:=Option.some.inj hk;omega
  ·rw[hpo i ei]at hk;have hi2:=old i hi k hk;by_cases ej:j=m
   ·subst ej;rw[hpm];intro hk2;rcases hv with h'|h'
    ·rw[h']at hk2;exact h.apart i j hi hj hij k hk hk2
    ·rw[h']at hk2;have:=Option.some.inj hk2;omega
   ·rw[hpo j ej];exact h.apart i j hi hj hij k hk
 ·rw[zDP,List.getElem?_set,List.getElem?_set,if_neg (by omega)];refine⟨(hx2 j hj).1,?_⟩;by_cases e:j=m
  ·subst e;rw[if_pos rfl,if_pos (by omega),hpm]
  ·rw[if_neg (by omega),hpo j e];exact(hx2 j hj).2
 ·rw[hdn];exact zAM h.dones hT (fun k hk hmu=>by
   rcases hmu with rfl|hmu
   ·exact h.ov_dv rfl hk
   ·exact h.dv_pv hk (by omega) hmu)
 ·by_cases e:j=m
  ·subst e;rw[hpm,zBZ s l _ (by rw[<-h.len];omega),if_pos (by rw[<-h.len];omega),<-hn];have e1:=zBf hb hF hyE (hT.mono (fun k _ hk=>hTM k hk)) hcame;have e2:=zBf hb hF hx (hT.mono (fun k _ hk=>hTM k hk)) hcame;exact⟨ys++[x],by simpa using hown2,(e1.and e2).map fun W hW=>hW.1.append (show Each W [x] [l]from⟨⟨hW.2.1,hW.2.2⟩,trivial⟩)⟩
  ·rw[hpo j e,zBZ s l _ (by rw[<-h.len];omega),if_neg (by rw[<-h.len];omega)];exact(h.parts j hj).keep hb hF hT hTM hcame (fun k hk hmu=>by
    rcases hmu with rfl|hmu
    ·exact hgp j hj hk
    ·exact h.apart j m hj (by omega) e k hk hmu)
end
def zAB (A:Nat->Addr) (W0:World) (F:Nat->Prop) (b:Nat) (w w':World) (s':De.St) (e:Ending):Prop:=e=.returned (.tuple #[])/\Upto F w w'/\PrW A W0 (Ext F w w') b s' w'
section
variable {A:Nat->Addr} {W0 w w2:World} {F:Nat->Prop} {b:Nat} {s:De.St}
theorem PrW.after {w':World} {s':De.St} {e:Ending} (h:PrW A W0 F b s w) (hg:w.grownBy w2 none) (hp:zAB A W0 (Ext F w w2) b w2 w' s' e):zAB A W0 F b w w' s' e:=by
 obtain⟨h1,h2,h3⟩:=hp;have:=h.join2 ⟨Upto.of_grown F hg,h.grow hg⟩ ⟨h2,h3⟩;exact⟨h1,this.1,this.2⟩
theorem PrW.same (h:PrW A W0 F b s w):Upto F w w/\PrW A W0 (Ext F w w) b s w:=⟨Upto.refl F w,h.iff (Ext.refl_iff F w)⟩
theorem PrW.err_cell (h:PrW A W0 F b s w):w.cell? ⟨b,2,none⟩=some (zAu A s.e)/\w.frozen? ⟨b,2,none⟩=false/\b<w.heap.size:=by
 obtain⟨ov,dv,h1,_⟩:=h.body;exact⟨cell_blk h1 2 rfl,zAh h1 2,zAi h1⟩
theorem zAU (h:PrW A W0 F b s w) (k:Nat) (hk:k≠0) :
  Calls prog 54 #[.pointer (some ⟨b,0,none⟩),errV A k] w fun e w'=>zAB A W0 F b w w' (De.fail s k) e:=by
 have HX:=hid h;obtain⟨c2,f2,hbl⟩:=h.err_cell;unfold De.fail;by_cases he:s.e=0
 ·rw[if_pos he];rw[zAu,if_pos he]at c2;have HK:=hid (HX.out.err k hk);clear h he;go_enter func54,ntmps54
  go_wp2
  go_returns
  exact⟨rfl,HK.out⟩
 ·rw[if_neg he];rw[zAu,if_neg he]at c2;have HK:=hid HX.out.same;clear h he;go_enter func54,ntmps54
  go_wp2
  go_returns
  exact⟨rfl,HK.out⟩
end
theorem iEl:((prog.info? 101).map (fun i=>(i.zero,i.size,i.bytes)))=some (some (.agg #[.int .i64 0,.slice none 0 0]),2,32):=by kernel_rfl
theorem zL1 (s:De.St) (t:Int) (ht:Tl.made t=true) (hd:s.op.length<16):De.opn s t=opd s t.toNat:=by
 unfold De.opn;rw[if_neg (by rw[ht];simp),if_neg (by omega)];rfl
theorem zCL {A:Nat->Addr} {W0 w:World} {F:Nat->Prop} {b:Nat} {s:De.St} (h:PrW A W0 F b s w) (hE:AllErrs W0 A) (t:Int) :
  Calls prog 24 #[.pointer (some ⟨b,0,none⟩),.int .i64 t] w fun e w'=>zAB A W0 F b w w' (if s.e=0 then De.opn s t else s) e:=by
 have HX:=hid h;obtain⟨c2,f2,hbl⟩:=h.err_cell;have HED:Hid (w.cell? ⟨6,0,none⟩=some (errV A 5)/\w.cell? ⟨7,0,none⟩=some (errV A 6)):=hid (by
  have hEE:=hE.grown h.base;have e5:=zAs hEE 5 (by decide);have e6:=zAs hEE 6 (by decide);simp only[errVars,List.getD_cons_zero,List.getD_cons_succ,Nat.add_one_sub_one]at e5 e6;exact⟨e5,e6⟩)
 by_cases he:s.e=0
 ·rw[if_pos he];rw[zAu,if_pos he]at c2;have HM:=hid (zDf t);cases hm:Tl.made t with
  |false =>
   have hst:De.opn s t=De.fail s 5:=by unfold De.opn De.fail;rw[if_pos hm,if_pos he]
   rw[hst];rw[hm]at HM;have HF:=hid (zAU HX.out 5 (by decide));have e5:=HED.out.1;clear h he hm hst hE;go_enter func24,ntmps24
   go_wp2_with (first
    |(go_at_call 53;refine(HM.out _).mono ?_;rintro e w2 ⟨rfl,hw2⟩;have hw2':=hw2.symm;subst hw2';clear hw2)
    |(go_at_call 54;refine HF.out.mono ?_;rintro e w3 ⟨rfl,k1,k2⟩;have K1:=hid k1;have K2:=hid k2;clear k1 k2))
   go_returns
   exact⟨rfl,K1.out,K2.out⟩
  |true =>
   rw[hm]at HM;obtain⟨ov,dv,hc,hb⟩:=h.body;obtain⟨n,pv,hR⟩:=hb he;rw[zAu,if_pos he]at hc;have c0:=cell_blk hc 0 rfl;have f0:=zAh hc 0;obtain⟨xs,hx1,hx2⟩:=hR.opens;obtain⟨oa,og,oc,rfl,_⟩:=zAp hx1;have hdeep:=hR.deep;have hlen:=hR.len;by_cases hn:n=16
   ·have hst:De.opn s t=De.fail s 6:=by unfold De.opn De.fail;rw[if_neg (by rw[hm];simp),if_pos (by omega),if_pos he]
    rw[hst];have HF:=hid (zAU HX.out 6 (by decide));have e6:=HED.out.2;subst hn;clear h he hm hst hE hR hb hc hx1 hx2 hlen;go_enter func24,ntmps24
    go_wp2_with (first
     |(go_at_call 53;refine(HM.out _).mono ?_;rintro e w2 ⟨rfl,hw2⟩;have hw2':=hw2.symm;subst hw2';clear hw2)
     |(go_at_call 54;refine HF.out.mono ?_;rintro e w3 ⟨rfl,k1,k2⟩;have K1:=hid k1;have K2:=hid k2;clear k1 k2))
    go_returns
    exact⟨rfl,K1.out,K2.out⟩
   ·have hn16:n<16:=by omega
    have hst:De.opn s t=opd s t.toNat:=zL1 s t hm (by omega);have htn:((t.toNat:Nat):Int)=t:=by have:=Tl.made_nat t hm;omega
    rw[hst];have z16:((n:Int)==16)=false:=by simp;omega
    have HG:Hid (∀ o w2 v',w2.ownsRow 0 101 2 v' (n+1) (xs++[.int .i64 t,.slice none 0 0])->(w.alloc o).grownBy w2 (Value.slice oa n oc).ownBlock->(v'.ownBlock=(Value.slice oa n oc).ownBlock∨v'.ownBlock=some (w.alloc o).heap.size) ->
      w2.cell? ⟨b,0,none⟩=some (.slice oa n oc)/\w2.frozen? ⟨b,0,none⟩=false/\Upto F w (w2.setCell ⟨b,0,none⟩ v')/\PrW A W0 (Ext F w (w2.setCell ⟨b,0,none⟩ v')) b (opd s t.toNat) (w2.setCell ⟨b,0,none⟩ v')):=hid (fun o w2 v' ho hg hv=>by
     have hb2:w2.heap[b]?=w.heap[b]?:=(hg.block b (by rw[zAe];omega) (fun e=>hR.rov e.symm)).trans (zCG _ _ _ hbl);exact⟨(World.cell?_of_block hb2).trans c0,(World.frozen?_of_block hb2).trans f0,PwR.opened HX.out.base HX.out.own HX.out.mem he hc hR hn16 hx1 hx2 (World.grownBy_alloc _ _ _) (by rw[htn];exact ho) hg hv⟩)
    have HO:=hid hx1;have HI:=hid iEl;clear h he hm hst hE hR hb hc hx1 hx2 hlen htn;go_enter func24,ntmps24
    go_wp2_with (first
     |(go_at_call 53;refine(HM.out _).mono ?_;rintro e w2 ⟨rfl,hw2⟩;have hw2':=hw2.symm;subst hw2';clear hw2)
     |(at_builtin;refine zAH (by rfl) (.tmp 8) (.tmp 11) 53 (by rfl) 0 101 (.agg #[.int .i64 0,.slice none 0 0]) 2 32 underlying53 HI.out rfl (by decide) (by decide) _ n xs (by rfl) (HO.out.alloc _) ⟨_,0,none⟩ 1 _ [.int .i64 t,.slice none 0 0] (by rfl) rfl (by intro j u hj;rw[addr_addO,Nat.zero_add];exact cell_blk (alloc_at _ _) j (by simpa using hj)) (by intro u hu;simp at hu;rcases hu with rfl|rfl <;> rfl) (by omega) (Nat.zero_le _) ?_;intro v' w2 ho hg hv;obtain⟨va,vg,vc,rfl,q1,q2,q3,q4,q5⟩:=zAp ho;clear q1 q2 q3 q4 q5;obtain⟨d0,e0,k1,k2⟩:=HG.out _ _ _ ho hg hv;have K1:=hid k1;have K2:=hid k2;clear ho hg hv k1 k2))
    go_returns
    exact⟨rfl,K1.out,K2.out⟩
 ·rw[if_neg he];rw[zAu,if_neg he]at c2;have HK:=hid HX.out.same;clear h he hE;go_enter func24,ntmps24
  go_wp2
  go_returns
  exact⟨rfl,HK.out⟩
theorem iLB:((prog.info? 33).map (fun i=>(i.zero,i.size,i.bytes)))=some (some (.slice none 0 0),1,24):=by kernel_rfl
theorem zDw {A:Nat->Addr} {W0 w w2:World} {F:Nat->Prop} {b:Nat} {s:De.St} {x:Value} {l:List Nat} (h:PrW A W0 F b s w) (he:s.e=0) (hl:Lim 2000 s) (hll:l.length<=70000) (hg:w.grownBy w2 none)
  (hx:Sup (fun k=>w.heap.size<=k/\k<w2.heap.size) w2 (fun W=>Bytes W x l/\Whole0 x)) :
  Calls prog 106 #[.pointer (some ⟨b,0,none⟩),x] w2 fun e w'=>zAB A W0 F b w w' (De.add s l) e:=by
 have h2:=h.grow hg;have HX:=hid h2;have HX0:=hid h;have HG0:=hid hg;obtain⟨ov,dv,hc0,hb0⟩:=h.body;obtain⟨n,pv,hR0⟩:=hb0 he;have hRold:∀ k,MutP b ov dv n pv k->k<w.heap.size:=fun k hk=>(h.own k (hR0.mine k hk)).2
 have hc:w2.heap[b]?=some (.cells #[ov,dv,zAu A s.e] 55 (0,0)):=(hg.block b (h.own b h.mem).2 (by simp)).trans hc0;have hR:=(hR0.other (G:=fun _=>False) h.base (fun _ h=>h.elim) (Upto.of_grown _ hg) (fun _ h=>h.elim)).wide h2.base (fun k hk=>.inl hk) h2.own;rw[zAu,if_pos he]at hc;have c0:=cell_blk hc 0 rfl;have c1:=cell_blk hc 1 rfl;have f1:=zAh hc 1;have hbl:=zAi hc;obtain⟨xs,hx1,hx2⟩:=hR.opens;obtain⟨oa,og,oc,rfl,hnc,hmx,_,_,hop⟩:=zAp hx1;have hlen:=hR.len;have hdeep:=hR.deep;by_cases hn:n=0
 ·subst hn;have hlv:s.dn.length<=2000:=by have:=hl.len 0;rwa [show zAI s 0=s.dn from rfl]at this
  have hfl:s.dn.flatten.length<=70000*2000:=by
   have h5:=zBB s.dn (fun z hz=>hl.big 0 z hz);omega
  have HO:=hid hR.dones;obtain⟨hxB,hx0⟩:=hx.now;have HB:=hid hxB;have H0:=hid hx0;have HG:Hid (∀ w3 v',w3.ownsRow 0 5 1 v' (s.dn.flatten.length+l.length) (cellsL s.dn.flatten++cellsL l)->w2.grownBy w3 dv.ownBlock->(v'.ownBlock=dv.ownBlock∨v'.ownBlock=some w2.heap.size) ->
    w3.cell? ⟨b,1,none⟩=some dv/\w3.frozen? ⟨b,1,none⟩=false/\zAB A W0 F b w (w3.setCell ⟨b,1,none⟩ v') (De.add s l) (.returned (.tuple #[]))):=hid (fun w3 v' ho hg3 hv=>by
   have hb2:w3.heap[b]?=w2.heap[b]?:=hg3.block b hbl (fun e=>hR.rdv e.symm);exact⟨(World.cell?_of_block hb2).trans c1,(World.frozen?_of_block hb2).trans f1,HX0.out.after HG0.out ⟨rfl,PwR.added0 HX.out.base HX.out.own HX.out.mem he rfl hc hR hxB.lt (zAa _ _) ho hg3 hv⟩⟩)
  obtain⟨dl,hdl⟩:∃ dl,dl=s.dn.flatten.length:=⟨_,rfl⟩
  have HDl:Hid (dl<=140000000/\l.length<=70000):=hid (by omega);rw[<-hdl]at HO HG;clear h h2 he hl hll hg hx hc hc0 hb0 hR0 hRold hR hx1 hx2 hnc hmx hop hlen hdeep hlv hfl hxB hx0 hdl;go_enter func106,ntmps106
  go_wp2_with (at_builtin;refine zBT (by rfl) (.tmp 15) (.tmp 16) 33 (by rfl) 0 5 (.int .u8 0) 1 underlying33 (by kernel_rfl) rfl (by decide) _ _ _ (by rfl) HO.out _ l (by rfl) HB.out H0.out (by have:=HDl.out;omega) (Nat.zero_le _) ?_;intro v' w3 ho3 hg3 hv3;obtain⟨va,vg,vc,rfl,q1,q2,q3,q4,q5⟩:=zAp ho3;clear q1 q2 q3 q4 q5;obtain⟨d1,e1,k1⟩:=HG.out _ _ ho3 hg3 hv3;have K1:=hid k1;clear ho3 hg3 hv3 k1)
  go_returns
  exact K1.out
 ·obtain⟨m,rfl⟩:∃ m,n=m+1:=⟨n-1,by omega⟩
  obtain⟨rfl,hogl,hcells,hfree⟩:=hop (by omega);obtain⟨ys,hy1,hy2⟩:=hR.parts m (by omega);obtain⟨ya,yg,yc,hyv,_⟩:=zAp hy1;have hyl:ys.length<=2000:=by rw[hy2.now.len];exact hl.len _
  have hcm:=hcells _ _ (hx2 m (by omega)).2;have hfm:=hfree (2*m+1);rw[hyv]at hcm;have HO:=hid hy1;have HYl:=hid hyl;have hxI:Sup (ImM W0 (Ext F w w2) (MutP b (.slice (some ⟨og,0,none⟩) (m+1) oc) dv (m+1) pv)) w2 (fun W=>Bytes W x l/\Whole0 x):=by
   have hsz:=hg.size;refine hx.mono (fun k hk=>⟨.inl (.inr hk),fun hmu=>?_⟩) (fun k hk=>?_)
   ·have:=hRold k hmu;omega
   ·rcases hk.1 with hk|hk
    ·exact(HX.out.own k hk).2
    ·exact Nat.lt_of_lt_of_le hk HX.out.base.size
  have HG:Hid (∀ wq o w3 v',w2.grownBy wq none->w3.ownsRow 0 33 1 v' (ys.length+1) (ys++[x])->(wq.alloc o).grownBy w3 (pv m).ownBlock->(v'.ownBlock=(pv m).ownBlock∨v'.ownBlock=some (wq.alloc o).heap.size) ->
    w3.cell? ⟨og,2*m+1,none⟩=some (pv m)/\w3.frozen? ⟨og,2*m+1,none⟩=false/\zAB A W0 F b w (w3.setCell ⟨og,2*m+1,none⟩ v') (De.add s l) (.returned (.tuple #[]))):=hid (fun wq o w3 v' hq ho hg3 hv=>by
   have hqs:=hq.size;have hb2:w3.heap[og]?=w2.heap[og]?:=(hg3.block og (by rw[zAe];omega) (fun e=>hR.ov_pv rfl (by omega) e.symm)).trans ((zCG _ _ _ (by omega)).trans (hq.block og hogl (by simp)));exact⟨(World.cell?_of_block hb2).trans (by rw[hcm,hyv]),(World.frozen?_of_block hb2).trans hfm,HX0.out.after HG0.out ⟨rfl,PwR.added1 HX.out.base HX.out.own HX.out.mem he rfl hc hR hy1 hy2 hxI (zAc hq _) ho hg3 hv⟩⟩)
  have HCm:Hid (∀ wq,w2.grownBy wq none->wq.cell? ⟨og,2*m+1,none⟩=some (.slice ya ys.length yc)):=hid (fun wq hq=>(World.cell?_of_block (hq.block og hogl (by simp))).trans hcm);rw[Nat.mul_comm 2 m]at HG HCm;have HI:=hid iLB;have hwm:IntKind.i64.wrap (((m+1:Nat):Int)-1)=(m:Int):=by
   simp only[IntKind.wrap,IntKind.bits,IntKind.signed];simp;omega
  have hone:=(hx.now.1);obtain⟨_,xa,_,_,xc,rfl,_⟩:=hone;rw[hyv]at HO HG;obtain⟨N,hN⟩:∃ N,N=m+1:=⟨_,rfl⟩
  rw[<-hN]at c0 hwm;have hmN:(m:Int)<(N:Int):=by omega
  have hm0:(0:Int)<=(m:Int):=by omega
  have z0:((N:Int)==0)=false:=by simp;omega
  clear h h2 he hl hll hg hx hc hc0 hb0 hR0 hRold hR hx1 hx2 hnc hmx hop hlen hdeep hy1 hy2 hyl hyv hcells hfree hxI hN hn;go_enter func106,ntmps106
  go_wp2
  go_quiet (fail)
  have hgq:w2.grownBy (w2.drewN nq) none:=zAd (zAa _ _) _;have HGq:=hid hgq;have d1:=HCm.out _ hgq;have HOq:=hid (HO.out.kept hgq (Classical.em _));clear hgq;generalize w2.drewN nq=wq at *;go_wp2_with (at_builtin;refine zAH (by rfl) (.tmp 35) (.tmp 37) 81 (by rfl) 0 33 (.slice none 0 0) 1 24 underlying81 HI.out rfl (by decide) (by decide) _ _ ys (by rfl) (HOq.out.alloc _) ⟨_,0,none⟩ 1 _ [.slice xa l.length xc] (by rfl) rfl (by intro j u hj;rw[addr_addO,Nat.zero_add];exact cell_blk (alloc_at _ _) j (by simpa using hj)) (by intro u hu;simp at hu;rw[hu];rfl) (by have:=HYl.out;omega) (Nat.zero_le _) ?_;intro v' w3 ho3 hg3 hv3;obtain⟨va,vg,vc,rfl,q1,q2,q3,q4,q5⟩:=zAp ho3;clear q1 q2 q3 q4 q5;obtain⟨d2,e2,k1⟩:=HG.out _ _ _ _ HGq.out ho3 hg3 hv3;have K1:=hid k1;clear ho3 hg3 hv3 k1)
  go_returns
  exact K1.out
structure RunW (A:Nat->Addr) (W0 w:World) (F F':Nat->Prop) (b:Nat) (s':De.St) (wr:World):Prop where
 upto:Upto F w wr
 wrt:PrW A W0 F' b s' wr
 sub:∀ k,F' k->Ext F w wr k
section
variable {A:Nat->Addr} {W0 w w2 wr:World} {F F':Nat->Prop} {b:Nat} {s' s2:De.St} {e:Ending}
theorem RunW.still (h:RunW A W0 w F F' b s' wr) (hg:wr.grownBy w2 none):RunW A W0 w F F' b s' w2 :=
 ⟨h.upto.trans (Upto.of_grown F hg) (fun _ _ h=>h),h.wrt.still hg,fun k hk=>by
  have:=hg.size;rcases h.sub k hk with h1|h1
  ·exact .inl h1
  ·exact .inr ⟨h1.1,by omega⟩⟩
theorem RunW.call (h:RunW A W0 w F F' b s' wr) (hp:zAB A W0 F' b wr w2 s2 e):RunW A W0 w F (Ext F' wr w2) b s2 w2:=by
 obtain⟨_,hu,hr⟩:=hp;have h1:=h.upto.size;have h2:=hu.size;refine⟨h.upto.trans hu (fun k hk hf=>?_),hr,fun k hk=>?_⟩
 ·rcases h.sub k hf with hf|hf
  ·exact hf
  ·omega
 ·rcases hk with hk|hk
  ·rcases h.sub k hk with h3|h3
   ·exact .inl h3
   ·exact .inr ⟨h3.1,by omega⟩
  ·exact .inr ⟨by omega,hk.2⟩
theorem RunW.done (hw:∀ k,F k->W0.heap.size<=k/\k<w.heap.size) (hb:W0.grownBy w none) (h:RunW A W0 w F F' b s' wr):zAB A W0 F b w wr s' (.returned (.tuple #[])):=⟨rfl,h.upto,h.wrt.wide h.sub (zAo hb hw h.upto.size)⟩
theorem RunW.first (hp:zAB A W0 F b w w2 s2 e):RunW A W0 w F (Ext F w w2) b s2 w2:=⟨hp.2.1,hp.2.2,fun k hk=>hk⟩
end
def zK3 (w w':World) (r:Except Nat (List Nat)) (e:Ending):Prop:=w.grownBy w' none /\
 match r with
 |.ok l=>∃ u,e=.returned (.tuple #[u,.int .i64 0])/\FrW w w' u l
 |.error k=>e=.returned (.tuple #[.slice none 0 0,.int .i64 (k:Nat)])
theorem zF0 {W0 w:World} {F:Nat->Prop} {b m:Nat} {s:De.St} (h:RefW W0 F b s w) (hl:Lim m s) (hm:m<=2000) :
  Calls prog 31 #[.pointer (some ⟨b,0,none⟩)] w fun e w'=>zK3 w w' (De.done s) e:=by
 obtain⟨tv,rv,hc,hRw⟩:=h.body;have hbl:=zAi hc;have c0:=cell_blk hc 0 rfl;have c1:=cell_blk hc 1 rfl;have c2:=cell_blk hc 2 rfl;obtain⟨Rr,hRr⟩:∃ Rr,Rr=De.done s:=⟨_,rfl⟩
 rw[<-hRr];unfold De.done at hRr;by_cases he:s.e=0
 ·rw[if_neg (by omega)]at hRr;rw[he]at c2;have hR:=hRw he;obtain⟨ta,tc,rfl⟩:∃ ta tc,tv=.slice ta s.op.length tc:=by
   obtain⟨a,sb,so,c,h,_⟩:=hR.tags.now.1;rw[zAJ]at h;exact⟨a,c,h⟩
  by_cases hop:s.op=[]
  ·rw[if_neg (by simpa using hop)]at hRr;have HRr:=hid hRr;rw[hop]at c0;obtain⟨n,xs,hn,ho,hlv⟩:=hR.rows;obtain⟨ra,c,rfl⟩:∃ ra c,rv=.slice ra n c:=by
    obtain⟨a,g,c,h,_⟩:=zAl ho;exact⟨a,c,h⟩
   obtain⟨ys,hys⟩:=hlv 0 (by omega);obtain⟨hV,hE,hW0⟩:=hys.now;have hl0:zAI s 0=s.dn:=by unfold zAI;rw[if_pos rfl]
   rw[hl0]at hE;have HJs:Hid (s.dn.length<=2000):=hid (by have:=hl.len 0;rw[hl0]at this;omega);have HBig:Hid (∀ z∈s.dn,z.length<=70000):=hid (fun z hz=>hl.big 0 z (by rw[hl0];exact hz));have hg1:w.grownBy (w.alloc (.cells #[] 5)) none:=World.grownBy_alloc _ _ _;have d1:=(World.cell?_of_block (hg1.block _ hbl (by simp))).trans c1;have d0:=(World.cell?_of_block (hg1.block _ hbl (by simp))).trans c0;have HG1:=hid hg1;have FA:=hid (FW0 w);by_cases hn0:n=0
   ·subst hn0;have hx0:xs=[]:=List.eq_nil_of_length_eq_zero (by simpa using ho.1);subst hx0;have hy0:ys=[]:=by
     have:=hV.cap (a:=none) (n:=0) (c:=0);exact List.eq_nil_of_length_eq_zero this.1.symm
    subst hy0;have hd:s.dn=[]:=by
     have:=hE.len;exact List.eq_nil_of_length_eq_zero this.symm
    rw[hd]at HRr;clear hE hV hlv ho hR hRw h hc hRr hg1 hys hW0;go_enter func31,ntmps31
    go_wp2
    go_returns
    rw[HRr.out];exact⟨HG1.out,_,rfl,FA.out⟩
   ·obtain⟨la,lc,hla⟩:∃ la lc,xs.getD 0 (.slice none 0 0)=.slice la s.dn.length lc:=by
     obtain⟨a,_,_,c,h,_⟩:=hV;rw[hE.len]at h;exact⟨a,c,h⟩
    rw[hla]at hV hW0;obtain⟨g,rfl,hgl,hgc⟩:∃ g,ra=some ⟨g,0,none⟩/\g<w.heap.size/\w.cell? ⟨g,0,none⟩=some (.slice la s.dn.length lc):=by
     have hl:=ho.1;rcases ho.2 with⟨_,h0⟩|⟨g,cap,cur,h4,_,h5,_,_,h6,h7⟩
     ·omega
     ·simp only[Value.slice.injEq]at h4;obtain⟨rfl,_,_⟩:=h4;refine⟨g,rfl,zAi h5,cell_blk h5 0 ?_⟩;rw[<-hla];have hk2:xs[0]?=some (xs.getD 0 (.slice none 0 0)):=by
       rw[List.getD_eq_getElem?_getD,List.getElem?_eq_getElem (by omega)];rfl
      rw[<-hk2,<-h7,List.getElem?_take,if_pos (by omega)];simp
    have dg:=(World.cell?_of_block (hg1.block _ hgl (by simp))).trans hgc;have hn1:(0:Int)<(n:Int):=by omega
    have HVz:=hid hV;have HE5:=hid hE;generalize s.dn=LL at *;obtain⟨j,hj⟩:∃ j,j=LL.length:=⟨_,rfl⟩
    have HLL:Hid (LL.length=j):=hid hj.symm;rw[<-hj]at HVz HJs dg;have HPl:Hid (∀ i,i<=j->(LL.take i).flatten.length<=200000000):=hid (fun i hi=>by
     have:=zBB (LL.take i) (fun z hz=>HBig.out z (List.mem_of_mem_take hz));rw[List.length_take,HLL.out]at this;have:=HJs.out;omega)
    have HTk:Hid (∀ i,i<j->(LL.take (i+1)).flatten=(LL.take i).flatten++LL.getD i []):=hid (fun i hi=>zCE _ (by rw[HLL.out];exact hi));have HTe:Hid ((LL.take j).flatten=LL.flatten):=hid (by rw[List.take_of_length_le (by rw[HLL.out];exact Nat.le_refl _)]);obtain⟨sb,so,HI⟩:=zDj HVz.out HE5.out HLL.out;have HI3:=hid HI;clear HI hE hV hlv ho hR hRw h hc hRr hg1 hys hW0 hgc hla hj;go_enter func31,ntmps31
    go_wp2
    go_loopw [4,36] (fun v i wr=>∃ k:Nat,k<=j/\i=.int .i64 (k:Int)/\FrW w wr v (LL.take k).flatten) (fun _ i _=>j-(intOf i).toNat)
    case atStart=>exact⟨0,Nat.zero_le _,rfl,FA.out⟩
    case round =>
     obtain⟨k,hk,rfl,hF⟩:=hrel;have hjs:=HJs.out;have HF:=hid hF;by_cases hkj:k<j
     ·obtain⟨rfl,y,hy,hyb,hy0⟩:=HI3.out wr hF.grown k hkj;have HYb:=hid hyb;have HY0:=hid hy0;have HTk2:=hid (HTk.out k hkj);have HP2:=hid (HPl.out (k+1) (by omega));clear hF hyb hy0;go_wp2_with (at_builtin;refine zAP (by rfl) (.tmp 40) (.tmp 41) 33 (by rfl) w.heap.size 5 (.int .u8 0) 1 underlying33 (by kernel_rfl) rfl (by decide) _ _ _ (by rfl) HF.out.own _ _ (by rfl) HYb.out HY0.out (by have h1:=HP2.out;rw[HTk2.out,List.length_append]at h1;omega) HF.out.le ?_;intro v4 w4 ho4 hg4;have F4:=hid (HF.out.step (l':=(LL.take (k+1)).flatten) ho4 hg4 (by rw[HTk2.out];exact(zAn _ _).symm));clear ho4 hg4)
      go_roundw
      case rel=>exact⟨v4,y,.int .i64 ((k:Int)+1),⟨k+1,by omega,by go_num,F4.out⟩,rfl,rfl,rfl⟩
      case measure=>simp[intOf];omega
     ·obtain rfl:k=j:=by omega
      rw[HTe.out]at HF;obtain⟨av,gv,cv,hav,_⟩:=zAl HF.out.own;clear hF;subst hav;generalize LL.flatten=AL at *;by_cases hbig:65536<AL.length
      ·have hz:(65536:Int)<(AL.length:Int):=by omega
       go_wp2
       go_returns
       rw[HRr.out,if_pos hbig];exact⟨HF.out.grown,rfl⟩
      ·have hz:¬(65536:Int)<(AL.length:Int):=by omega
       go_wp2
       go_returns
       rw[HRr.out,if_neg hbig];exact⟨HF.out.grown,_,rfl,HF.out⟩
  ·rw[if_pos (by simpa using hop)]at hRr;have hz:(0:Int)<(s.op.length:Int):=by
    have:=List.length_pos_iff.2 hop;omega
   have HRr:=hid hRr;clear hRw h hc hR hRr;go_enter func31,ntmps31
   go_wp2
   go_returns
   rw[HRr.out];exact⟨zAa _ _,rfl⟩
 ·rw[if_pos (by omega)]at hRr;have hz:((s.e:Nat):Int)≠0:=by omega
  have HRr:=hid hRr;clear hRw h hc hRr;go_enter func31,ntmps31
  go_wp2
  go_quiet (fail)
  go_wp2
  go_returns
  rw[HRr.out];exact⟨zAd (zAa _ _) _,rfl⟩
theorem RefW.new {W0 w:World} (hb:W0.grownBy w none) :
  RefW W0 (fun k=>k=w.heap.size) w.heap.size De.St.zero (w.alloc (.cells #[.slice none 0 0,.slice none 0 0,.int .i64 0] 59)):=by
 have hs:(w.alloc (.cells #[.slice none 0 0,.slice none 0 0,.int .i64 0] 59)).heap.size=w.heap.size+1:=zAe _ _;have h0:=hb.size;have hlt:∀ k,Im W0 (fun k=>k=w.heap.size) w.heap.size (.slice none 0 0) k->k<(w.alloc (.cells #[.slice none 0 0,.slice none 0 0,.int .i64 0] 59)).heap.size:=fun k hk=>by
  rcases hk.1 with hk|hk
  ·rw[hs,hk];omega
  ·rw[hs];omega
 refine⟨zAc hb _,fun k hk=>⟨by rw[hk];exact h0,by rw[hs,hk];omega⟩,rfl,.slice none 0 0,.slice none 0 0,alloc_at w _,fun _=>⟨fun k hk=>absurd hk (by simp[Value.ownBlock]),by simp[De.St.zero],fun h=>absurd h (by simp[De.St.zero]),⟨hlt,fun w' _=>⟨Ints.nil w',fun n c e=>by cases e;exact⟨rfl,rfl⟩⟩⟩,0,[],by omega,⟨rfl,.inl ⟨rfl,rfl⟩⟩,fun k hk=>?_⟩⟩;have hk0:k=0:=by simpa [De.St.zero]using hk
 subst hk0;exact LevS.nil hlt
def TwoW (A:Nat->Addr) (W0:World) (b1 b2:Nat) (B:Nat->Prop) (s t:De.St) (w:World):Prop :=
 ∃ F1 F2,PrW A W0 F1 b1 s w/\RefW W0 F2 b2 t w/\Apart F1 F2/\∀ k,B k->k<w.heap.size/\¬ F1 k/\¬ F2 k
section
variable {A:Nat->Addr} {W0 w w':World} {b1 b2:Nat} {B:Nat->Prop} {s t:De.St}
theorem TwoW.base (h:TwoW A W0 b1 b2 B s t w):W0.grownBy w none:=by
 obtain⟨F1,F2,h1,_⟩:=h;exact h1.base
theorem zDa {F:Nat->Prop} (h:Upto F w w'):Turn F (Ext F w w') w w':=⟨h,fun k hk hf=>by
 rcases hf with hf|hf
 ·exact hf
 ·omega⟩
end
def vI (n:Int):De.Val:={ De.none0 with kind:=3,n:=n }
theorem zBm {s:De.St} (h:s.e≠0) (v:De.Val):De.step s v=s:=by unfold De.step;rw[if_pos h]
theorem fitI {n:Int} (h:De.I64 n):De.Fit (vI n)/\De.has (vI n)=true/\(De.elemOf (vI n)).length<=14:=by
 refine⟨⟨⟨by show(3:Int)<=3;decide,by show(3:Int)<=10;decide⟩,h,by simp[vI,De.none0],by simp[vI,De.none0]⟩,?_,?_⟩
 ·unfold De.has De.body vI;simp
 ·have e:De.elemOf (vI n)=Tl.elem 2 (Wh.body n):=by unfold De.elemOf De.body vI;simp
  rw[e,Tl.elem_len];have:=Wh.body_len n;have:=Tl.more_le (Wh.body n).length;omega
def szR (s:De.Rd):Nat:=if s.e=0 then s.top.length else 0
structure LeftI (j:Nat) (s:De.Rd):Prop where
 sz:j+szR s<=2000
 top:s.top.length<=2000
 lev:s.left.length<=17
 e28:s.e<=28
theorem zJq {l:List Nat} {t i n:Nat} (h:Tl.first l=.ok (t,i,n)):2<=l.length:=by
 match l,h with
 |[],h=>exact absurd h (by simp[Tl.first])
 |[x],h =>
  rw[Tl.first]at h;split at h
  ·cases h
  ·exact absurd h (by simp[Tl.rdLen])
 |x :: y :: r,_=>simp
theorem zFf {s:De.Rd} {tag:Int}:(De.next s tag).1.left=s.left/\(De.next s tag).1.top.length<=s.top.length/\∀ x y,(De.next s tag).2=some (x,y)->(De.next s tag).1.e=s.e/\(De.next s tag).1.top.length+2<=s.top.length/\x.length<=s.top.length:=by
 unfold De.next;by_cases he:s.e≠0
 ·rw[if_pos he];exact⟨rfl,Nat.le_refl _,fun x y e=>by cases e⟩
 ·rw[if_neg he];cases hf:Tl.first s.top with
  |error k=>exact⟨rfl,Nat.le_refl _,fun x y e=>by cases e⟩
  |ok p =>
   obtain⟨t,i,n⟩:=p;simp only;by_cases ht:tag≠0/\(t:Int)≠tag
   ·rw[if_pos ht];exact⟨rfl,Nat.le_refl _,fun x y e=>by cases e⟩
   ·rw[if_neg ht];have h2:=Tl.first_two hf;have hne:s.top≠[]:=by
     intro h0;rw[h0]at hf;exact absurd hf (by simp[Tl.first])
    refine⟨rfl,by rw[List.length_drop];omega,fun x y e=>⟨rfl,?_,?_⟩⟩
    ·have h3:=zJq hf;rw[List.length_drop];omega
    ·obtain⟨rfl,_⟩:=Prod.mk.inj (Option.some.inj e);rw[List.length_take,List.length_drop];omega
theorem LeftI.le {j:Nat} {s:De.Rd} (h:LeftI j s):j<=2000:=by have:=h.sz;omega
theorem zBL (s:De.Rd) (tag least most:Int):(De.ask s 2 tag least most).1=De.leave s:=by
 unfold De.ask;by_cases he:s.e≠0
 ·rw[if_pos he,zEq he]
 ·rw[if_neg he,if_neg (by decide),if_pos rfl]
theorem zBs (s:De.Rd) (tag least most:Int):(De.ask s 1 tag least most).1=(De.enter s tag).1:=by
 unfold De.ask;by_cases he:s.e≠0
 ·rw[if_pos he];unfold De.enter;rw[if_pos he]
 ·rw[if_neg he,if_pos rfl]
theorem zF9 {A:Nat->Addr} {W0 w:World} {F:Nat->Prop} {b:Nat} {s:De.St} (h:PrW A W0 F b s w) (hE:AllErrs W0 A) (tag:Int) (xs:List Na.Pr) (a:Option Addr) (n c:Nat) (hxs:xs.length=n) (hn:n<=9223372036854775807) (hB:∀ W,Upto F w W->Prts W (.slice a n c) xs) (f:Nat) (caps:Array Value) (st:Nat->De.St)
  (hen:∀ args w,(callFunc f args).run prog w=.ok (.enter f args) w) (h0:st 0=if s.e=0 then De.opn s tag else s)
  (hcall:∀ j F' W,j<n->PrW A W0 F' b (st j) W->Calls prog f (#[.pointer (some ⟨b,0,none⟩),.agg #[.string (xs.getD j (Na.e0,Na.e0)).1,.string (xs.getD j (Na.e0,Na.e0)).2]]++caps) W fun e w'=>zAB A W0 F' b W w' (st (j+1)) e)
  (hcl:∀ F' W,PrW A W0 F' b (st n) W->Calls prog 29 #[.pointer (some ⟨b,0,none⟩)] W fun e w'=>zAB A W0 F' b W w' (De.step (st n) { De.none0 with kind:=2 }) e) :
  Calls prog 61 #[.pointer (some ⟨b,0,none⟩),.int .i64 tag,.slice a n c,.func (.func f) #[] caps] w fun e w'=>zAB A W0 F b w w' (De.step (st n) { De.none0 with kind:=2 }) e:=by
 have hI:(prog.info? 88).map (·.size)=some 2:=by kernel_rfl
 have HX:=hid h;have hfn:∀ W,(binOp .neq 112 (.func (.func f) #[] caps) .nilFunc).run prog W=.ok (.bool true) W:=fun W=>rfl
 have HB:=hid hB;have HXs:=hid hxs;have HCl:=hid hcall;have HCs:=hid hcl;have HO:=hid (zCL h hE tag);rw[<-h0]at HO;obtain⟨T,hT⟩:∃ T,T=De.step (st n) { De.none0 with kind:=2 }:=⟨_,rfl⟩
 rw[<-hT]at HCs ⊢;clear h hE hxs hB hcall hcl h0 hT;go_enter func61,ntmps61
 go_wp2_with (go_at_call 24;refine HO.out.mono ?_;rintro e w2 hp;have he:=hp.1;subst he;have R2:Hid (∃ F',RunW A W0 w F F' b (st 0) w2):=hid ⟨_,RunW.first hp⟩;clear hp)
 go_loopw [15] (fun i wr=>∃ (j:Nat) (F':Nat->Prop),j<=n/\i=.int .i64 j/\RunW A W0 w F F' b (st j) wr) (fun i _=>n-(intOf i).toNat)
 case atStart =>
  obtain⟨F',hF'⟩:=R2.out;exact⟨0,F',Nat.zero_le _,rfl,hF'⟩
 case round =>
  obtain⟨j,F',hj,rfl,hR⟩:=hrel;have R:=hid hR;by_cases hjn:j<n
  ·have HC0:=hid (fun W (hW:PrW A W0 F' b (st j) W)=>HCl.out j F' W hjn hW);obtain⟨_,sb,so,_,hv,h3,h4⟩:=HB.out wr hR.upto;rw[HXs.out]at h3 h4 hv;simp only[Value.slice.injEq]at hv;obtain⟨rfl,_,rfl⟩:=hv;obtain⟨rfl,hsb⟩:=h3 (by omega);have c0:=(h4 j hjn).1;have c1:=(h4 j hjn).2;generalize (xs.getD j (Na.e0,Na.e0)).1=p1 at *;generalize (xs.getD j (Na.e0,Na.e0)).2=p2 at *;obtain⟨w4,hw4⟩:∃ w4,w4=wr.alloc (.cells #[.string p1,.string p2] 88):=⟨_,rfl⟩
   have hg4:wr.grownBy w4 none:=by rw[hw4];exact World.grownBy_alloc _ _ _
   have HB4:Hid (w4.heap[wr.heap.size]?=some (.cells #[.string p1,.string p2] 88 (0,0))):=hid (by rw[hw4];exact alloc_at _ _);have R4:=hid (R.out.still hg4);have HC:=hid (HC0.out w4 R4.out.wrt);have HW4:=hid hw4;clear hR h4 h3 hw4 hg4 HC0;go_wp2_with (first
    |(rw[<-HW4.out];refine wpList_load_row (by rfl) 88 (.tmp 9) (by rfl) wr.heap.size (by rfl) 88 #[.string p1,.string p2] (0,0) _ HB4.out underlying88 rfl hI ?_)
    |((try rw[<-HW4.out]);(with_reducible refine HC.out.mono ?_);rintro e w5 hp;have he:=hp.1;subst he;have R5:=hid (R4.out.call hp);clear hp))
   go_roundw
   case rel=>exact⟨j+1,_,by omega,by go_num,R5.out⟩
   case measure=>simp[intOf];omega
  ·obtain rfl:j=n:=by omega
   have HC:=hid (HCs.out F' wr hR.wrt);clear hR;go_wp2_with (go_at_call 29;(with_reducible refine HC.out.mono ?_);rintro e w5 hp;have he:=hp.1;subst he;have R5:=hid (R.out.call hp);clear hp)
   go_returns
   exact R5.out.done HX.out.own HX.out.base
def isM (t:Int):Prop:=0<=t/\t<=253402300799
instance (t:Int):Decidable (isM t):=by unfold isM;infer_instance
def zH4 (v:Value) (b:List Nat) (R:Except Nat De.Val) (w w':World) (e:Ending):Prop:=w.grownBy w' none/\∃ (n:Int) (q:Bool) (a:Option Addr) (l c:Nat) (S:ByteArray),e=.returned (.tuple #[.agg #[.int .i64 0,.int .i64 n,.bool q,.slice a l c,.string S],.int .i64 (errNat R:Nat)]) /\
 ∀ x,R=.ok x->x.kind=0/\x.n=n/\x.is=q/\x.t=strL S/\((x.b=[]/\Value.slice a l c=.slice none 0 0)∨(x.b=b/\Value.slice a l c=v))
theorem dr_one5 (k n:Int) (q:Bool) (a:Option Addr) (l c:Nat) (S:ByteArray):(#[.int .i64 k,.int .i64 n,.bool q,.slice a l c,.string S]:Array Value).all (·.oneCell')=true:=by simp[Value.oneCell']
theorem zBR {w W2 w3 w4:World} {oa oc:Obj} {D:Array Value} (hW:W2=(w.alloc oa).alloc oc) (hg:W2.grownBy w3 none) (h4:w4=w3.setRow (w.heap.size+1) D):w.grownBy w4 none:=by
 subst hW;subst h4;have hga:w.grownBy ((w.alloc oa).alloc oc) none:=zAc (World.grownBy_alloc _ _ _) _;have h1:=zAb hga hg;have hs:=hg.size;rw[zBd]at hs;exact⟨h1.os,h1.tape,h1.output,by simp;exact h1.size,fun k hk hne=>by
  rw[setRow_other _ _ _ _ (by omega)];exact h1.block k hk hne⟩
theorem zGA {l:List Nat} {k:Nat} (h:Wh.get l=.error k):k≠0:=by
 unfold Wh.get at h;split at h
 ·cases h;decide
 ·split at h
  ·cases h;decide
  ·split at h
   ·cases h;decide
   ·cases h
theorem zBV {v:Value} {b:List Nat} {R:Except Nat De.Val} {k:Nat} {n:Int} {w w':World} (h:R=.error k) (hg:w.grownBy w' none) (q:Bool) (a:Option Addr) (l c:Nat) (S:ByteArray):zH4 v b R w w' (.returned (.tuple #[.agg #[.int .i64 0,.int .i64 n,.bool q,.slice a l c,.string S],.int .i64 (k:Nat)])):=by
 subst h;exact⟨hg,_,_,_,_,_,_,rfl,fun x h=>by cases h⟩
theorem zIB {w:World} (v:Value) (b:List Nat) (tag least most:Int) (hB:Bytes w v b) :
  Calls prog 77 #[.agg #[.int .i64 3,.int .i64 tag,.int .i64 least,.int .i64 most],v] w fun e w'=>zH4 v b (De.said 3 least most b) w w' e:=by
 obtain⟨R,hR⟩:∃ R,R=De.said 3 least most b:=⟨_,rfl⟩
 rw[<-hR];unfold De.said at hR;rw[if_pos (by decide)]at hR;obtain⟨W2,hW2⟩:∃ W2,W2=(w.alloc (.cells #[.int .i64 3,.int .i64 tag,.int .i64 least,.int .i64 most] 76)).alloc (.cells #[.int .i64 0,.int .i64 0,.bool false,.slice none 0 0,.string ⟨#[]⟩] 63):=⟨_,rfl⟩
 have hga:w.grownBy W2 none:=by rw[hW2];exact zAc (World.grownBy_alloc _ _ _) _
 have b0:W2.heap[w.heap.size]?=some (.cells #[.int .i64 3,.int .i64 tag,.int .i64 least,.int .i64 most] 76 (0,0)):=by rw[hW2];exact zBM _ _ _
 have b1:W2.heap[w.heap.size+1]?=some (.cells #[.int .i64 0,.int .i64 0,.bool false,.slice none 0 0,.string ⟨#[]⟩] 63 (0,0)):=by rw[hW2];exact zBN _ _ _
 have hs2:W2.heap.size=w.heap.size+2:=by rw[hW2,zBd]
 have HB3:Hid (∀ w3,W2.grownBy w3 none->w3.heap[w.heap.size+1]?=some (.cells #[.int .i64 0,.int .i64 0,.bool false,.slice none 0 0,.string ⟨#[]⟩] 63 (0,0))):=hid (fun w3 hg=>(hg.block _ (by omega) (by simp)).trans b1);have HA3:Hid (∀ w3,W2.grownBy w3 none->w3.heap[w.heap.size]?=some (.cells #[.int .i64 3,.int .i64 tag,.int .i64 least,.int .i64 most] 76 (0,0))):=hid (fun w3 hg=>(hg.block _ (by omega) (by simp)).trans b0);have HW2:=hid hW2;have HI5:Hid ((prog.info? 63).map (·.size)=some 5):=hid (by kernel_rfl);have hn:=zFQ v b W2 (hB.grown hga);have HG2:=hid (zAa W2 none);cases hw:Wh.get b with
 |error k =>
  rw[hw]at hR hn;simp only at hR hn;have hk:((k:Nat):Int)≠0:=by have:=zGA hw;omega
  have HN:Hid (Calls prog 115 #[v] W2 fun e w'=>e=.returned (.tuple #[.int .i64 0,.int .i64 (k:Nat)])/\W2.grownBy w' none):=hid (hn.mono (fun e w' h=>⟨h.2,by rw[h.1];exact zAa _ _⟩));have HR:=hid hR;have c0:=cell_blk (HA3.out _ HG2.out) 0 rfl;rw[hW2]at c0;clear hn hw hR hB hga b0 b1 hs2 hW2;go_enter func77,ntmps77
  go_wp2_with (first
   |(go_at_call 115;rw[<-HW2.out];refine HN.out.mono ?_;rintro e w3 ⟨rfl,hg3⟩;have HG3:=hid hg3;have d0:=cell_blk (HA3.out _ hg3) 0 rfl;have d2:=cell_blk (HA3.out _ hg3) 2 rfl;have d3:=cell_blk (HA3.out _ hg3) 3 rfl;clear hg3)
   |(refine wpList_store_row (by rfl) 63 (.tmp 4) (.tmp 39) (by rfl) (w.heap.size+1) #[.int .i64 0,.int .i64 0,.bool false,.slice none 0 0,.string ⟨#[]⟩] (by rfl) (by rfl) _ _ (HB3.out _ HG3.out) HI5.out rfl (dr_one5 _ _ _ _ _ _ _) ?_;obtain⟨w4,hw4⟩:∃ w4,w4=w3.setRow (w.heap.size+1) #[.int .i64 0,.int .i64 0,.bool false,.slice none 0 0,.string ⟨#[]⟩]:=⟨_,rfl⟩;rw[<-hw4];have hb4:w4.heap[w.heap.size+1]?=some (.cells #[.int .i64 0,.int .i64 0,.bool false,.slice none 0 0,.string ⟨#[]⟩] 63 (0,0)):=(by rw[hw4];exact setRow_heap _ _ _ _ _ _ (HB3.out _ HG3.out));have HW4:=hid hw4;have HB4:=hid hb4;clear hw4 hb4))
  refine bodyPost_ret (v:=.tuple #[.agg #[.int .i64 0,.int .i64 0,.bool false,.slice none 0 0,.string ⟨#[]⟩],.int .i64 (k:Nat)]) ?_ rfl ?_
  ·exact zAD results77 _ _ (w.heap.size+1) _ _ (0,0) _ _ rfl HB4.out underlying63 rfl HI5.out rfl
  exact zBV HR.out (zBR HW2.out HG3.out HW4.out) _ _ _ _ _
 |ok n =>
  rw[hw]at hR hn;simp only at hR hn;have HN:Hid (Calls prog 115 #[v] W2 fun e w'=>e=.returned (.tuple #[.int .i64 n,.int .i64 0])/\W2.grownBy w' none):=hid (hn.mono (fun e w' h=>⟨h.2,by rw[h.1];exact zAa _ _⟩));have c0:=cell_blk (HA3.out _ HG2.out) 0 rfl;rw[hW2]at c0;clear hn hw hB hga b0 b1 hs2 hW2;by_cases h1:n<least
  ·rw[if_pos (.inl h1)]at hR;have HR:=hid hR;clear hR;go_enter func77,ntmps77
   go_wp2_with (first
    |(go_at_call 115;rw[<-HW2.out];refine HN.out.mono ?_;rintro e w3 ⟨rfl,hg3⟩;have HG3:=hid hg3;have d0:=cell_blk (HA3.out _ hg3) 0 rfl;have d2:=cell_blk (HA3.out _ hg3) 2 rfl;have d3:=cell_blk (HA3.out _ hg3) 3 rfl;clear hg3)
    |(refine wpList_store_row (by rfl) 63 (.tmp 4) (.tmp 39) (by rfl) (w.heap.size+1) #[.int .i64 0,.int .i64 n,.bool false,.slice none 0 0,.string ⟨#[]⟩] (by rfl) (by rfl) _ _ (HB3.out _ HG3.out) HI5.out rfl (dr_one5 _ _ _ _ _ _ _) ?_;obtain⟨w4,hw4⟩:∃ w4,w4=w3.setRow (w.heap.size+1) #[.int .i64 0,.int .i64 n,.bool false,.slice none 0 0,.string ⟨#[]⟩]:=⟨_,rfl⟩;rw[<-hw4];have hb4:w4.heap[w.heap.size+1]?=some (.cells #[.int .i64 0,.int .i64 n,.bool false,.slice none 0 0,.string ⟨#[]⟩] 63 (0,0)):=(by rw[hw4];exact setRow_heap _ _ _ _ _ _ (HB3.out _ HG3.out));have HW4:=hid hw4;have HB4:=hid hb4;clear hw4 hb4))
   refine bodyPost_ret (v:=.tuple #[.agg #[.int .i64 0,.int .i64 n,.bool false,.slice none 0 0,.string ⟨#[]⟩],.int .i64 1]) ?_ rfl ?_
   ·exact zAD results77 _ _ (w.heap.size+1) _ _ (0,0) _ _ rfl HB4.out underlying63 rfl HI5.out rfl
   exact zBV HR.out (zBR HW2.out HG3.out HW4.out) _ _ _ _ _
  by_cases h2:most<n
  ·rw[if_pos (.inr h2)]at hR;have HR:=hid hR;clear hR;go_enter func77,ntmps77
   go_wp2_with (first
    |(go_at_call 115;rw[<-HW2.out];refine HN.out.mono ?_;rintro e w3 ⟨rfl,hg3⟩;have HG3:=hid hg3;have d0:=cell_blk (HA3.out _ hg3) 0 rfl;have d2:=cell_blk (HA3.out _ hg3) 2 rfl;have d3:=cell_blk (HA3.out _ hg3) 3 rfl;clear hg3)
    |(refine wpList_store_row (by rfl) 63 (.tmp 4) (.tmp 39) (by rfl) (w.heap.size+1) #[.int .i64 0,.int .i64 n,.bool false,.slice none 0 0,.string ⟨#[]⟩] (by rfl) (by rfl) _ _ (HB3.out _ HG3.out) HI5.out rfl (dr_one5 _ _ _ _ _ _ _) ?_;obtain⟨w4,hw4⟩:∃ w4,w4=w3.setRow (w.heap.size+1) #[.int .i64 0,.int .i64 n,.bool false,.slice none 0 0,.string ⟨#[]⟩]:=⟨_,rfl⟩;rw[<-hw4];have hb4:w4.heap[w.heap.size+1]?=some (.cells #[.int .i64 0,.int .i64 n,.bool false,.slice none 0 0,.string ⟨#[]⟩] 63 (0,0)):=(by rw[hw4];exact setRow_heap _ _ _ _ _ _ (HB3.out _ HG3.out));have HW4:=hid hw4;have HB4:=hid hb4;clear hw4 hb4))
   refine bodyPost_ret (v:=.tuple #[.agg #[.int .i64 0,.int .i64 n,.bool false,.slice none 0 0,.string ⟨#[]⟩],.int .i64 1]) ?_ rfl ?_
   ·exact zAD results77 _ _ (w.heap.size+1) _ _ (0,0) _ _ rfl HB4.out underlying63 rfl HI5.out rfl
   exact zBV HR.out (zBR HW2.out HG3.out HW4.out) _ _ _ _ _
  rw[if_neg (by omega)]at hR;have HR:=hid hR;clear hR;go_enter func77,ntmps77
  go_wp2_with (first
   |(go_at_call 115;rw[<-HW2.out];refine HN.out.mono ?_;rintro e w3 ⟨rfl,hg3⟩;have HG3:=hid hg3;have d0:=cell_blk (HA3.out _ hg3) 0 rfl;have d2:=cell_blk (HA3.out _ hg3) 2 rfl;have d3:=cell_blk (HA3.out _ hg3) 3 rfl;clear hg3)
   |(refine wpList_store_row (by rfl) 63 (.tmp 4) (.tmp 39) (by rfl) (w.heap.size+1) #[.int .i64 0,.int .i64 n,.bool false,.slice none 0 0,.string ⟨#[]⟩] (by rfl) (by rfl) _ _ (HB3.out _ HG3.out) HI5.out rfl (dr_one5 _ _ _ _ _ _ _) ?_;obtain⟨w4,hw4⟩:∃ w4,w4=w3.setRow (w.heap.size+1) #[.int .i64 0,.int .i64 n,.bool false,.slice none 0 0,.string ⟨#[]⟩]:=⟨_,rfl⟩;rw[<-hw4];have hb4:w4.heap[w.heap.size+1]?=some (.cells #[.int .i64 0,.int .i64 n,.bool false,.slice none 0 0,.string ⟨#[]⟩] 63 (0,0)):=(by rw[hw4];exact setRow_heap _ _ _ _ _ _ (HB3.out _ HG3.out));have HW4:=hid hw4;have HB4:=hid hb4;clear hw4 hb4))
  refine bodyPost_ret (v:=.tuple #[.agg #[.int .i64 0,.int .i64 n,.bool false,.slice none 0 0,.string ⟨#[]⟩],.int .i64 0]) ?_ rfl ?_
  ·exact zAD results77 _ _ (w.heap.size+1) _ _ (0,0) _ _ rfl HB4.out underlying63 rfl HI5.out rfl
  rw[HR.out];exact⟨zBR HW2.out HG3.out HW4.out,_,_,_,_,_,_,rfl,fun x h=>by cases h;exact⟨rfl,rfl,rfl,rfl,.inl ⟨rfl,rfl⟩⟩⟩
theorem zGv {P:Program} {a:Act} {o:Oper} {w:World} {t:TypeId} {x:Operand} {k:Nat} {p v:Value} (ho:o.op=.build t #[(k,x)]) (hx:a.eval x=p) (h:(Instr.build t #[(k,p)]).run P w=.ok v w):(execOp a.eval o).run P w=.ok (.value v) w:=by
 simp only[execOp,ho,List.map_toArray,List.map_cons,List.map_nil,hx];simp[Result.andThen,h]
noncomputable def sd_regionC:Code:=zBn Tryz.f77.body 21
theorem zIn (a:Act) (v:Value) (g:Nat) (S:ByteArray) (n:Int) (k:Nat) (W w:World) (Q:Exit->Act->World->Prop) (hsz:a.tmps.size=126)
  (h1:a.eval (.tmp 1)=v) (h2:a.eval (.tmp 2)=.pointer (some ⟨g,0,none⟩)) (h4:a.eval (.tmp 4)=.pointer (some ⟨g+1,0,none⟩))
  (hcv:∀ w,W.grownBy w none->(convert 33 9 v).run prog w=.ok (.string S) w)
  (hF3:∀ w,(Instr.fieldAt 76 (.pointer (some ⟨g,0,none⟩)) 3).run prog w=.ok (.pointer (some ⟨g,3,none⟩)) w)
  (hL3:∀ w,W.grownBy w none->(Instr.loadAt 3 (.pointer (some ⟨g,3,none⟩))).run prog w=.ok (.int .i64 n) w)
  (hA:∀ w,Calls prog 95 #[.string S,.int .i64 n] w fun e w'=>e=.returned (.int .i64 (k:Int))/\w'=w)
  (hB:∀ w,W.grownBy w none->w.heap[g+1]?=some (.cells #[.int .i64 0,.int .i64 0,.bool false,.slice none 0 0,.string ⟨#[]⟩] 63 (0,0)))
  (hI5:(prog.info? 63).map (·.size)=some 5)
  (hw:W.grownBy { w with drawn:=w.drawn+1 } none)
  (hQ:∀ us w',W.grownBy w' none->Q .normal ((fill a [86,87,88,89,90,91,92,93] us).put (some 5) (.int .i64 (k:Int))) (w'.setRow (g+1) #[.int .i64 0,.int .i64 0,.bool false,.slice none 0 0,.string S])):sd_regionC.wp prog Q a w:=by
 have hst:zA9 [isV v,isV (.string S),isV (.agg #[.int .i64 0,.int .i64 0,.bool false,.slice none 0 0,.string S]),isV v,isV (.string S),isV (.pointer (some ⟨g,3,none⟩)),isV (.int .i64 n),isV (.int .i64 (k:Int))]:=⟨zAj _,zAj _,zAj _,zAj _,zAj _,zAj _,zAj _,zAj _,trivial⟩
 conv=>arg 2;whnf
 refine zAG 8 [86,87,88,89,90,91,92,93] (fun w'=>W.grownBy w' none) (fun w w'=>w.grownBy w' none) (flF [isV v,isV (.string S),isV (.agg #[.int .i64 0,.int .i64 0,.bool false,.slice none 0 0,.string S]),isV v,isV (.string S),isV (.pointer (some ⟨g,3,none⟩)),isV (.int .i64 n),isV (.int .i64 (k:Int))]) (by kernel_rfl) (by kernel_rfl) (fun _ _ h k=>zAb k h) (fun j x w w' hg h=>zA3 hst j x w w' hg h) hw ?_ ?_
 ·refine⟨?_,?_,?_,?_,?_,?_,?_,?_,trivial⟩
  ·exact zAg (fun us w hC hd=>zAf rfl) (fun us w hC hd=>⟨_,w,zAz rfl ((fill_old (by rfl)).trans h1),zAa _ _,rfl⟩)
  ·exact zAg (fun us w hC hd=>zAf rfl) (fun us w hC hd=>⟨_,w,zB9 rfl ((fill_tmp (by rfl) (by rw[hsz];decide)).trans (hd 0 (by decide))) (hcv w hC),zAa _ _,rfl⟩)
  ·exact zAg (fun us w hC hd=>zAf rfl) (fun us w hC hd=>⟨_,w,zGv rfl ((fill_tmp (by rfl) (by rw[hsz];decide)).trans (hd 1 (by decide))) (by simp[go_sem]),zAa _ _,rfl⟩)
  ·exact zAg (fun us w hC hd=>zAf rfl) (fun us w hC hd=>⟨_,w,zAz rfl ((fill_old (by rfl)).trans h1),zAa _ _,rfl⟩)
  ·exact zAg (fun us w hC hd=>zAf rfl) (fun us w hC hd=>⟨_,w,zB9 rfl ((fill_tmp (by rfl) (by rw[hsz];decide)).trans (hd 3 (by decide))) (hcv w hC),zAa _ _,rfl⟩)
  ·exact zAg (fun us w hC hd=>zAf rfl) (fun us w hC hd=>⟨_,w,zBI rfl ((fill_old (by rfl)).trans h2) (hF3 w),zAa _ _,rfl⟩)
  ·exact zAg (fun us w hC hd=>zAf rfl) (fun us w hC hd=>⟨_,w,zAQ rfl ((fill_tmp (by rfl) (by rw[hsz];decide)).trans (hd 5 (by decide))) (hL3 w hC),zAa _ _,rfl⟩)
  ·refine zA7 95 (fun us=>#[us 90,us 92]) (fun us w hC hd=>zAf rfl) (fun us w=>by rw[zAX rfl (fun _ _=>by simp[go_sem]),List.map_toArray,List.map_cons,List.map_cons,List.map_nil,fill_tmp (by rfl) (by rw[hsz];decide),fill_tmp (by rfl) (by rw[hsz];decide)]) (fun us w hC' hd=>?_);rw[show us 90=.string S from hd 4 (by decide)];rw[show us 92=.int .i64 n from hd 6 (by decide)];exact(hA w).mono (by rintro e w' ⟨rfl,h⟩;rw[h];exact⟨_,rfl,zAa _ _,rfl⟩)
 ·intro us w' hC' hd;refine wpList_store_row (by rfl) 63 (.tmp 4) (.tmp 88) (by rfl) (g+1) #[.int .i64 0,.int .i64 0,.bool false,.slice none 0 0,.string S] ((fill_old (by rfl)).trans h4) ((fill_tmp (by rfl) (by rw[hsz];decide)).trans (hd 2 (by decide))) _ _ (hB w' hC') hI5 rfl (dr_one5 _ _ _ _ _ _ _) ?_;exact wpList_last rfl (assign_val rfl ((fill_tmp (by rfl) (by rw[hsz];decide)).trans (hd 7 (by decide)))) (hQ us w' hC')
theorem dr_arcs {b:List Nat} {l:List Int} (h:Od.get b=.ok l):l.length<=2000/\∀ n∈l,0<=n/\n<=2147483647:=by
 have hr:Od.right l=true:=by
  unfold Od.get at h;split at h
  ·cases h
  ·cases h
  ·simp only at h;split at h
   ·cases h;assumption
   ·cases h
 obtain⟨⟨_,h2,_⟩,h3⟩:=(Od.right_iff l).1 hr;exact⟨by omega,h3⟩
theorem zIz {w:World} (v:Value) (b:List Nat) (tag least most:Int) (hbl:b.length<=100000) (hB:Bytes w v b) :
  Calls prog 77 #[.agg #[.int .i64 8,.int .i64 tag,.int .i64 least,.int .i64 most],v] w fun e w'=>zH4 v b (De.said 8 least most b) w w' e:=by
 obtain⟨R,hR⟩:∃ R,R=De.said 8 least most b:=⟨_,rfl⟩
 rw[<-hR];unfold De.said at hR;rw[if_neg (by decide),if_neg (by decide),if_neg (by decide),if_neg (by decide),if_pos rfl]at hR;obtain⟨W2,hW2⟩:∃ W2,W2=(w.alloc (.cells #[.int .i64 8,.int .i64 tag,.int .i64 least,.int .i64 most] 76)).alloc (.cells #[.int .i64 0,.int .i64 0,.bool false,.slice none 0 0,.string ⟨#[]⟩] 63):=⟨_,rfl⟩
 have hga:w.grownBy W2 none:=by rw[hW2];exact zAc (World.grownBy_alloc _ _ _) _
 have b0:W2.heap[w.heap.size]?=some (.cells #[.int .i64 8,.int .i64 tag,.int .i64 least,.int .i64 most] 76 (0,0)):=by rw[hW2];exact zBM _ _ _
 have b1:W2.heap[w.heap.size+1]?=some (.cells #[.int .i64 0,.int .i64 0,.bool false,.slice none 0 0,.string ⟨#[]⟩] 63 (0,0)):=by rw[hW2];exact zBN _ _ _
 have hs2:W2.heap.size=w.heap.size+2:=by rw[hW2,zBd]
 have HB3:Hid (∀ w3,W2.grownBy w3 none->w3.heap[w.heap.size+1]?=some (.cells #[.int .i64 0,.int .i64 0,.bool false,.slice none 0 0,.string ⟨#[]⟩] 63 (0,0))):=hid (fun w3 hg=>(hg.block _ (by omega) (by simp)).trans b1);have HA3:Hid (∀ w3,W2.grownBy w3 none->w3.heap[w.heap.size]?=some (.cells #[.int .i64 8,.int .i64 tag,.int .i64 least,.int .i64 most] 76 (0,0))):=hid (fun w3 hg=>(hg.block _ (by omega) (by simp)).trans b0);have HW2:=hid hW2;have HI5:Hid ((prog.info? 63).map (·.size)=some 5):=hid (by kernel_rfl);have hn:=zHp v b W2 (hB.grown hga) hbl;have HG2:=hid (zAa W2 none);cases hw:Od.get b with
 |error k =>
  rw[hw]at hR hn;simp only at hR;have hk0:=zEl hw;have hk:((k:Nat):Int)≠0:=by omega
  have HN:Hid (Calls prog 116 #[v] W2 fun e w'=>(∃ u,e=.returned (.tuple #[u,.int .i64 (k:Nat)]))/\W2.grownBy w' none):=hid (hn.mono (fun e w' h=>by
   obtain⟨hg,u,he,_⟩:=h;exact⟨⟨u,he⟩,hg⟩))
  have HR:=hid hR;have c0:=cell_blk (HA3.out _ HG2.out) 0 rfl;rw[hW2]at c0;clear hn hw hR hB hga b0 b1 hs2 hW2 hk0;go_enter func77,ntmps77
  go_wp2_with (first
   |(go_at_call 116;rw[<-HW2.out];refine HN.out.mono ?_;rintro e w3 ⟨⟨u,rfl⟩,hg3⟩;have HG3:=hid hg3;have d0:=cell_blk (HA3.out _ hg3) 0 rfl;have d2:=cell_blk (HA3.out _ hg3) 2 rfl;have d3:=cell_blk (HA3.out _ hg3) 3 rfl;clear hg3)
   |(refine wpList_store_row (by rfl) 63 (.tmp 4) (.tmp 103) (by rfl) (w.heap.size+1) #[.int .i64 0,.int .i64 0,.bool false,.slice none 0 0,.string ⟨#[]⟩] (by rfl) (by rfl) _ _ (HB3.out _ HG3.out) HI5.out rfl (dr_one5 _ _ _ _ _ _ _) ?_;obtain⟨w4,hw4⟩:∃ w4,w4=w3.setRow (w.heap.size+1) #[.int .i64 0,.int .i64 0,.bool false,.slice none 0 0,.string ⟨#[]⟩]:=⟨_,rfl⟩;rw[<-hw4];have hb4:w4.heap[w.heap.size+1]?=some (.cells #[.int .i64 0,.int .i64 0,.bool false,.slice none 0 0,.string ⟨#[]⟩] 63 (0,0)):=(by rw[hw4];exact setRow_heap _ _ _ _ _ _ (HB3.out _ HG3.out));have HW4:=hid hw4;have HB4:=hid hb4;clear hw4 hb4))
  refine bodyPost_ret (v:=.tuple #[.agg #[.int .i64 0,.int .i64 0,.bool false,.slice none 0 0,.string ⟨#[]⟩],.int .i64 (k:Nat)]) ?_ rfl ?_
  ·exact zAD results77 _ _ (w.heap.size+1) _ _ (0,0) _ _ rfl HB4.out underlying63 rfl HI5.out rfl
  exact zBV HR.out (zBR HW2.out HG3.out HW4.out) _ _ _ _ _
 |ok l =>
  rw[hw]at hR hn;simp only at hR;obtain⟨hl1,hl2⟩:=dr_arcs hw;have HN:Hid (Calls prog 116 #[v] W2 fun e w'=>(∃ u,e=.returned (.tuple #[u,.int .i64 0])/\Ints w' u l)/\W2.grownBy w' none):=hid (hn.mono (fun e w' h=>by
   obtain⟨hg,u,he,hi⟩:=h;exact⟨⟨u,he,hi l rfl⟩,hg⟩))
  have HT:Hid (∀ (u:Value) (W:World),Ints W u l->Calls prog 117 #[u] W fun e w'=>e=.returned (.string (strOf (Od.text l)))/\W.grownBy w' none):=hid (fun u W h=>zE1 u l W h hl1 hl2);have htx:Od.text l=strL (strOf (Od.text l)):=(zAw (zId l hl2)).symm;have HR:Hid (R=.ok { De.none0 with t:=strL (strOf (Od.text l)) }):=hid (by rw[<-htx];exact hR);obtain⟨S,hS⟩:∃ S,S=strOf (Od.text l):=⟨_,rfl⟩
  rw[<-hS]at HT HR;have c0:=cell_blk (HA3.out _ HG2.out) 0 rfl;rw[hW2]at c0;clear hn hw hR hB hga b0 b1 hs2 hW2 hl1 hl2 htx hS;go_enter func77,ntmps77
  go_wp2_with (first
   |(go_at_call 116;rw[<-HW2.out];refine HN.out.mono ?_;rintro e w2 ⟨⟨u,rfl,hi⟩,hg3⟩;have HG1:=hid hg3;have z0:=cell_blk (HA3.out _ hg3) 0 rfl;have z2:=cell_blk (HA3.out _ hg3) 2 rfl;have z3:=cell_blk (HA3.out _ hg3) 3 rfl;have HI:=hid hi;clear hg3 hi)
   |(go_at_call 117;refine(HT.out _ _ HI.out).mono ?_;rintro e w3 ⟨rfl,hg3⟩;have HG3:=hid (zAb HG1.out hg3);clear hg3)
   |(refine wpList_store_row (by rfl) 63 (.tmp 4) (.tmp 107) (by rfl) (w.heap.size+1) #[.int .i64 0,.int .i64 0,.bool false,.slice none 0 0,.string S] (by rfl) (by rfl) _ _ (HB3.out _ HG3.out) HI5.out rfl (dr_one5 _ _ _ _ _ _ _) ?_;obtain⟨w4,hw4⟩:∃ w4,w4=w3.setRow (w.heap.size+1) #[.int .i64 0,.int .i64 0,.bool false,.slice none 0 0,.string S]:=⟨_,rfl⟩;rw[<-hw4];have hb4:w4.heap[w.heap.size+1]?=some (.cells #[.int .i64 0,.int .i64 0,.bool false,.slice none 0 0,.string S] 63 (0,0)):=(by rw[hw4];exact setRow_heap _ _ _ _ _ _ (HB3.out _ HG3.out));have HW4:=hid hw4;have HB4:=hid hb4;clear hw4 hb4))
  refine bodyPost_ret (v:=.tuple #[.agg #[.int .i64 0,.int .i64 0,.bool false,.slice none 0 0,.string S],.int .i64 0]) ?_ rfl ?_
  ·exact zAD results77 _ _ (w.heap.size+1) _ _ (0,0) _ _ rfl HB4.out underlying63 rfl HI5.out rfl
  rw[HR.out];exact⟨zBR HW2.out HG3.out HW4.out,_,_,_,_,_,_,rfl,fun x h=>by cases h;exact⟨rfl,rfl,rfl,rfl,.inl ⟨rfl,rfl⟩⟩⟩
theorem zEz {l:List Nat} {k:Nat} (h:Cal.get l=.error k):k≠0:=by
 unfold Cal.get at h
 (repeat' split at h) <;> first|(cases h;decide)|cases h
theorem zIA {w:World} (v:Value) (b:List Nat) (tag least most:Int) (hbl:b.length<=1000000) (hB:Bytes w v b) :
  Calls prog 77 #[.agg #[.int .i64 7,.int .i64 tag,.int .i64 least,.int .i64 most],v] w fun e w'=>zH4 v b (De.said 7 least most b) w w' e:=by
 obtain⟨R,hR⟩:∃ R,R=De.said 7 least most b:=⟨_,rfl⟩
 rw[<-hR];unfold De.said at hR;rw[if_neg (by decide),if_neg (by decide),if_neg (by decide),if_pos rfl]at hR;obtain⟨W2,hW2⟩:∃ W2,W2=(w.alloc (.cells #[.int .i64 7,.int .i64 tag,.int .i64 least,.int .i64 most] 76)).alloc (.cells #[.int .i64 0,.int .i64 0,.bool false,.slice none 0 0,.string ⟨#[]⟩] 63):=⟨_,rfl⟩
 have hga:w.grownBy W2 none:=by rw[hW2];exact zAc (World.grownBy_alloc _ _ _) _
 have b0:W2.heap[w.heap.size]?=some (.cells #[.int .i64 7,.int .i64 tag,.int .i64 least,.int .i64 most] 76 (0,0)):=by rw[hW2];exact zBM _ _ _
 have b1:W2.heap[w.heap.size+1]?=some (.cells #[.int .i64 0,.int .i64 0,.bool false,.slice none 0 0,.string ⟨#[]⟩] 63 (0,0)):=by rw[hW2];exact zBN _ _ _
 have hs2:W2.heap.size=w.heap.size+2:=by rw[hW2,zBd]
 have HB3:Hid (∀ w3,W2.grownBy w3 none->w3.heap[w.heap.size+1]?=some (.cells #[.int .i64 0,.int .i64 0,.bool false,.slice none 0 0,.string ⟨#[]⟩] 63 (0,0))):=hid (fun w3 hg=>(hg.block _ (by omega) (by simp)).trans b1);have HA3:Hid (∀ w3,W2.grownBy w3 none->w3.heap[w.heap.size]?=some (.cells #[.int .i64 7,.int .i64 tag,.int .i64 least,.int .i64 most] 76 (0,0))):=hid (fun w3 hg=>(hg.block _ (by omega) (by simp)).trans b0);have HW2:=hid hW2;have HI5:Hid ((prog.info? 63).map (·.size)=some 5):=hid (by kernel_rfl);have HG2:=hid (zAa W2 none);have hb8:=hB.1;have hSb:strL (strOf b)=b:=zAw hb8;have HCv:Hid (∀ W,w.grownBy W none->(convert 33 9 v).run prog W=.ok (.string (strOf b)) W):=hid (fun W hW=>zAS (hB.grown hW) _ _ _ underlying33 underlying5 underlying9);have HAs:Hid (∀ W,Calls prog 95 #[.string (strOf b),.int .i64 most] W fun e w'=>e=.returned (.int .i64 ((Pt.asked b most:Nat):Int))/\w'=W):=hid (fun W=>by
  have:=zCY (strOf b) most (by rw[zAE];exact hbl) W;rwa [hSb]at this)
 have HR:Hid (R=if Pt.asked b most=0 then .ok { De.none0 with t:=strL (strOf b) } else .error (Pt.asked b most)):=hid (by rw[hSb];exact hR);obtain⟨K,hK⟩:∃ K,K=Pt.asked b most:=⟨_,rfl⟩
 obtain⟨S,hS⟩:∃ S,S=strOf b:=⟨_,rfl⟩
 rw[<-hK,<-hS]at HR;rw[<-hK,<-hS]at HAs;rw[<-hS]at HCv;have HL3:Hid (∀ W,W2.grownBy W none->(Instr.loadAt 3 (.pointer (some ⟨w.heap.size,3,none⟩))).run prog W=.ok (.int .i64 most) W):=hid (fun W hW=>zGf (cell_blk (HA3.out _ hW) 3 rfl));have HGa:=hid hga;have c0:=cell_blk (HA3.out _ HG2.out) 0 rfl;rw[hW2]at c0;clear hga b0 b1 hs2 hW2 hR hB hb8 hSb hK hS;go_enter func77,ntmps77
 go_wp2
 rw[<-HW2.out];refine zIn _ v w.heap.size S most K W2 _ _ rfl rfl rfl rfl (fun W hW=>HCv.out _ (zAb HGa.out hW)) (fun W=>by simp[go_sem]) (fun W hW=>HL3.out _ hW) HAs.out (fun W hW=>HB3.out _ hW) HI5.out ⟨rfl,rfl,rfl,Nat.le_refl _,fun _ _ _=>rfl⟩ (fun us w3 hg3=>?_);simp only[zAA,zAN,Act.put,List.setIfInBounds_toArray,List.set_cons_succ,List.set_cons_zero];obtain⟨w4,hw4⟩:∃ w4,w4=w3.setRow (w.heap.size+1) #[.int .i64 0,.int .i64 0,.bool false,.slice none 0 0,.string S]:=⟨_,rfl⟩
 rw[<-hw4];have HB4:Hid (w4.heap[w.heap.size+1]?=some (.cells #[.int .i64 0,.int .i64 0,.bool false,.slice none 0 0,.string S] 63 (0,0))):=hid (by rw[hw4];exact setRow_heap _ _ _ _ _ _ (HB3.out _ hg3));have HG4:=hid (zBR HW2.out hg3 hw4);clear hg3 hw4;go_wp2
 refine bodyPost_ret (v:=.tuple #[.agg #[.int .i64 0,.int .i64 0,.bool false,.slice none 0 0,.string S],.int .i64 (K:Nat)]) ?_ rfl ?_
 ·exact zAD results77 _ _ (w.heap.size+1) _ _ (0,0) _ _ rfl HB4.out underlying63 rfl HI5.out rfl
 by_cases hk:K=0
 ·have hr:=HR.out;rw[if_pos hk]at hr;subst hk;rw[hr];exact⟨HG4.out,_,_,_,_,_,_,rfl,fun x h=>by cases h;exact⟨rfl,rfl,rfl,rfl,.inl ⟨rfl,rfl⟩⟩⟩
 ·exact zBV (by rw[HR.out,if_neg hk]) HG4.out _ _ _ _ _
end Go.Proofs.YtijkaknggdaajaaGreatDoor
