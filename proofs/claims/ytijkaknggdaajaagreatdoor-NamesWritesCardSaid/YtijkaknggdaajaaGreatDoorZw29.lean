import Derived.Test.YtijkaknggdaajaaGreatDoorZw23
import Derived.Test.YtijkaknggdaajaaGreatDoorZw26
import Derived.Test.YtijkaknggdaajaaGreatDoorZw27
set_option linter.unusedVariables false
set_option linter.unusedSimpArgs false
set_option maxRecDepth 100000
set_option maxHeartbeats 8000000
namespace Go.Proofs.YtijkaknggdaajaaGreatDoor
open Go.Proofs.Tryz
open Lib (hid)
open Go.RowKit
section
variable {A:Nat->Addr} {W0 w w2:World} {F:Nat->Prop} {b:Nat} {s:De.Rd}
end
def zEc (most:Int) (l:List Nat):Except Nat (World->Value->Prop):=if Pt.asked l most=0 then .ok (fun _ v=>v=.string (strOf l))else .error (Pt.asked l most)
theorem zFI (A:Nat->Addr) (l:List Nat) (a:Option Addr) (c x1:Nat) (most:Int) (W0 w:World) (hb:W0.grownBy w none) (h1:w.cell? ⟨x1,0,none⟩=some (.int .i64 most)) (h8:∀ x∈l,x<256) (hl:l.length<=2000) (hm:inT most) (hB:Bytes w (.slice a l.length c) l) (hS:zKK A W0) :
  Calls prog 123 #[.slice a l.length c,.pointer (some ⟨x1,0,none⟩)] w fun e w'=>zCl A w w' (zEc most l) e:=by
 have HT:=hid (hS (.slice a l.length c) (strOf l) most w (by rw[zAE];exact hl) hm hb (by rw[zAw h8];exact hB));rw[zAw h8]at HT;unfold zEc;generalize l.length=n at *;by_cases hk:Pt.asked l most=0
 ·rw[if_pos hk];rw[if_pos hk]at HT;clear hB h8 hl hm hk hb hS;go_enter func123,ntmps123
  go_wp2_with (go_at_call 124;refine HT.out.mono ?_;rintro e w2 ⟨hg2,rfl⟩;have HG2:=hid hg2;clear hg2)
  go_returns
  exact⟨HG2.out,_,rfl,rfl⟩
 ·rw[if_neg hk];rw[if_neg hk]at HT;clear hB h8 hl hm hk hb hS;go_enter func123,ntmps123
  go_wp2_with (go_at_call 124;refine HT.out.mono ?_;rintro e w2 ⟨hg2,rfl⟩;have HG2:=hid hg2;clear hg2)
  go_returns
  exact⟨HG2.out,_,rfl⟩
theorem zHi {A:Nat->Addr} {W0 w:World} {F:Nat->Prop} {b:Nat} {s:De.Rd} (h:PrR A W0 F b s w) (hE:AllErrs W0 A) (hS:zKK A W0) (hnx:∀ l,Top1 s l->l.length<=2000) (most:Int) (hm:inT most) :
  Calls prog 81 #[.pointer (some ⟨b,0,none⟩),.int .i64 most] w fun e w'=>∃ v,e=.returned v/\zBt A W0 F b w w' (.string ⟨#[]⟩) (zAv s 12 (zEc most)) e:=by
 obtain⟨W1,hW1⟩:∃ W1,W1=w.alloc (.cells #[.int .i64 most] 3):=⟨_,rfl⟩
 have hga:w.grownBy W1 none:=by rw[hW1];exact zAc (zAa _ _) _
 have cx1:W1.cell? ⟨w.heap.size,0,none⟩=some (.int .i64 most):=by rw[hW1];exact cell_blk (alloc_at _ _) 0 rfl
 have hmf:=mkFn;have HR:=hid ((zDv (h.grow hga) hE 12 123 #[.pointer (some ⟨w.heap.size,0,none⟩)] (zEc most)
  (fun l k hk=>by
   unfold zEc at hk;split at hk
   ·exact absurd hk (by simp)
   ·rename_i hne
    obtain rfl:=Except.error.inj hk;exact hne)
  (fun l V hV w2 v x hg hv=>by
   unfold zEc at hV;split at hV
   ·obtain rfl:=Except.ok.inj hV;exact hv
   ·exact absurd hV (by simp))
  (zAW func123 rfl rfl)
  (fun l a c h8 _ hlt hB h0=>zFI A l a c _ most W0 W1 (zAV h.base hga) cx1 h8 (hnx l hlt.2) hm hB hS)).mono (fun e w' hp=>h.afterO hga hp))
 have HW1:Hid (w.alloc (.cells #[.int .i64 most] 3)=W1):=hid hW1.symm;generalize zAv s 12 (zEc most)=p at *;clear h hE hS hW1 hga cx1 hm hnx;go_enter func81,ntmps81
 go_wp2_with (go_at_call 121;rw[HW1.out];refine HR.out.mono ?_;rintro e w3 hp3;obtain⟨v,hv,hq⟩:=zB7 hp3;subst hv;have HQ:=hid hq;clear hp3 hq)
 go_ret
 exact⟨_,rfl,HQ.out⟩
def oidR (l:List Nat):Except Nat (World->Value->Prop):=match Od.get l with
 |.ok m=>.ok (fun _ v=>v=.string (strOf (Od.text m)))
 |.error k=>.error k
theorem zIs {A:Nat->Addr} {W0 w:World} {F:Nat->Prop} {b:Nat} {s:De.Rd} (h:PrR A W0 F b s w) (hE:AllErrs W0 A) (hS:zL4 A W0) :
  Calls prog 80 #[.pointer (some ⟨b,0,none⟩)] w fun e w'=>∃ v,e=.returned v/\zBt A W0 F b w w' (.string ⟨#[]⟩) (zAv s 6 oidR) e:=by
 have HN:=hid (zDv h hE 6 122 #[] oidR
  (fun l k hk=>by
   unfold oidR at hk;split at hk
   ·exact absurd hk (by simp)
   ·rename_i k2 hq
    obtain rfl:=Except.error.inj hk;exact zEl hq)
  (fun l V hV w2 v x hg hv=>by
   unfold oidR at hV;split at hV
   ·obtain rfl:=Except.ok.inj hV;exact hv
   ·exact absurd hV (by simp))
  (zAW func122 rfl rfl)
  (fun l a c h8 h65 hlt hB h0=>(hS _ l w h.base hB (by omega)).mono (fun e w' hp=>by
   obtain⟨hg,rfl⟩:=hp;unfold oidR;cases hq:Od.get l with
   |ok n=>exact⟨hg,_,rfl,rfl⟩
   |error k=>exact⟨hg,_,rfl⟩)))
 generalize zAv s 6 oidR=p at *;clear h hE hS;go_enter func80,ntmps80
 go_wp2_with (go_at_call 121;refine HN.out.mono ?_;rintro e w3 hp3;obtain⟨v,hv,hq⟩:=zB7 hp3;subst hv;have HQ:=hid hq;clear hp3 hq)
 go_ret
 exact⟨_,rfl,HQ.out⟩
def AnsV (w:World) (k:Int) (x:De.Val) (W:World) (v:Value):Prop :=
 if k=5 then v=.bool x.is else if k=6 then(∃ a c,v=.slice a x.b.length c)/\Sup (fun j=>w.heap.size<=j/\j<W.heap.size) W (fun X=>Bytes X v x.b/\Whole0 v)else if k=7∨k=8 then v=.string (strOf x.t)else v=.int .i64 x.n
def only (k:Int) (x:De.Val):Prop:=x=if k=5 then { De.none0 with is:=x.is } else if k=6 then { De.none0 with b:=x.b } else if k=7∨k=8 then { De.none0 with t:=x.t } else { De.none0 with n:=x.n }
theorem zIY (k:Int):only k De.none0:=by
 unfold only;by_cases h5:k=5
 ·rw[if_pos h5]
 ·rw[if_neg h5];by_cases h6:k=6
  ·rw[if_pos h6]
  ·rw[if_neg h6];by_cases h7:k=7∨k=8
   ·rw[if_pos h7]
   ·rw[if_neg h7]
theorem zIo {k least most:Int} {l:List Nat} {x:De.Val} (h:De.said k least most l=.ok x):only k x:=by
 unfold De.said at h;unfold only;by_cases h34:k=3∨k=4
 ·rw[if_pos h34]at h;rw[if_neg (by omega),if_neg (by omega),if_neg (by omega)];cases hg:Wh.get l with
  |error e=>rw[hg]at h;exact absurd h (by simp)
  |ok n =>
   rw[hg]at h;have h:(if n<least∨most<n then(Except.error 1:Except Nat De.Val)else .ok { De.none0 with n:=n })=.ok x:=h;split at h
   ·exact absurd h (by simp)
   ·obtain rfl:=Except.ok.inj h;rfl
 rw[if_neg h34]at h;by_cases h5:k=5
 ·rw[if_pos h5]at h ⊢;split at h
  ·exact absurd h (by simp)
  ·split at h
   ·exact absurd h (by simp)
   ·obtain rfl:=Except.ok.inj h;rfl
 rw[if_neg h5]at h ⊢;by_cases h6:k=6
 ·rw[if_pos h6]at h ⊢;split at h
  ·exact absurd h (by simp)
  ·split at h
   ·exact absurd h (by simp)
   ·obtain rfl:=Except.ok.inj h;rfl
 rw[if_neg h6]at h ⊢;by_cases h7:k=7
 ·rw[if_pos h7]at h;rw[if_pos (.inl h7)];split at h
  ·obtain rfl:=Except.ok.inj h;rfl
  ·exact absurd h (by simp)
 rw[if_neg h7]at h;by_cases h8:k=8
 ·rw[if_pos h8]at h;rw[if_pos (.inr h8)];cases hg:Od.get l with
  |error e=>rw[hg]at h;exact absurd h (by simp)
  |ok n=>rw[hg]at h;obtain rfl:=Except.ok.inj h;rfl
 rw[if_neg h8]at h;rw[if_neg (by omega)];by_cases h9:k=9
 ·rw[if_pos h9]at h;cases hg:Cal.get l with
  |error e=>rw[hg]at h;exact absurd h (by simp)
  |ok n=>rw[hg]at h;obtain rfl:=Except.ok.inj h;rfl
 rw[if_neg h9]at h;cases hg:Pt.mask l with
 |error e=>rw[hg]at h;exact absurd h (by simp)
 |ok n=>rw[hg]at h;obtain rfl:=Except.ok.inj h;rfl
def zKL (w:World) (k least most:Int) (r:List Nat->Except Nat (World->Value->Prop)):Prop:=∀ l,match De.said k least most l with
 |.error e=>r l=.error e
 |.ok x=>∃ V,r l=.ok V/\∀ W v,V W v->AnsV w k x W v
theorem zIf (w:World) (k least most:Int) (hk:k=3∨k=4):zKL w k least most (numR least most):=fun l=>by
 rw[zJ1 k least most hk];unfold numR zBX;cases hg:Wh.get l with
 |error e =>
  have he:=(show e≠0 from by
   intro h0;subst h0;revert hg;unfold Wh.get
   repeat' split
   all_goals simp)
  show(if e=0 then _ else _)=_
  rw[if_neg he]
 |ok n =>
  simp only;by_cases hb:n<least∨most<n
  ·rw[if_pos hb,if_pos hb];rfl
  ·rw[if_neg hb,if_neg hb];refine⟨_,if_pos rfl,fun W v hv=>?_⟩;unfold AnsV;rw[if_neg (by omega),if_neg (by omega),if_neg (by omega)];exact hv
theorem zHa (w:World) (least most:Int):zKL w 7 least most (zEc most):=fun l=>by
 unfold De.said zEc;rw[if_neg (by decide),if_neg (by decide),if_neg (by decide),if_pos rfl];by_cases h1:Pt.asked l most=0
 ·rw[if_pos h1,if_pos h1];refine⟨_,rfl,fun W v hv=>?_⟩;unfold AnsV;rw[if_neg (by decide),if_neg (by decide),if_pos (by decide)];exact hv
 ·rw[if_neg h1,if_neg h1]
theorem zIe (w:World) (least most:Int):zKL w 8 least most oidR:=fun l=>by
 unfold De.said oidR;rw[if_neg (by decide),if_neg (by decide),if_neg (by decide),if_neg (by decide),if_pos rfl];cases hg:Od.get l with
 |error e=>rfl
 |ok n =>
  refine⟨_,rfl,fun W v hv=>?_⟩;unfold AnsV;rw[if_neg (by decide),if_neg (by decide),if_pos (by decide)];exact hv
section
variable {A:Nat->Addr} {W0 w w2:World} {F:Nat->Prop} {b:Nat} {s:De.Rd}
theorem PrR.sane (h:PrR A W0 F b s w):De.Sane s:=by
 by_cases he:s.e=0
 ·obtain⟨_,_,_,_,_,h2⟩:=h.at0 he;exact h2.sane
 ·exact fun h0=>absurd h0 he
structure zJO (A:Nat->Addr) (W0:World) (F:Nat->Prop) (b:Nat) (s:De.Rd) (k tag least most:Int) (w w':World) (v:Value):Prop where
 upto:Upto F w w'
 rd:PrR A W0 (Ext F w w') b (De.ask s k tag least most).1 w'
 ans:AnsV w k (De.ask s k tag least most).2 w' v
 one:only k (De.ask s k tag least most).2
theorem zGx {w':World} {Z v:Value} {k tag least most:Int} {r:List Nat->Except Nat (World->Value->Prop)} (h:PrR A W0 F b s w) (h1:k≠1) (h2:k≠2) (h11:k≠11) (ht:zKL w k least most r) (hp:zBt A W0 F b w w' Z (zAv s (De.tagOf k) r) (.returned v)) (hZ:AnsV w k De.none0 w' Z) :
  zJO A W0 F b s k tag least most w w' v:=by
 obtain⟨q1,q2,q3⟩:=hp;obtain⟨p1,p2,p3⟩:=zKF (s:=s) h.sane k tag least most h1 h2 h11 r (fun l=>by
  have:=ht l;revert this
  cases De.said k least most l with
  |error e=>exact fun h=>h
  |ok x=>exact fun⟨V,hV,_⟩=>⟨V,hV⟩)
 have hst:PrR A W0 (Ext F w w') b (De.ask s k tag least most).1 w':=by
  by_cases he:(zAv s (De.tagOf k) r).1.e=0
  ·rw[<-p2 he];exact q2
  ·exact q2.err_any he p1.symm
 revert q3 p3
 cases (zAv s (De.tagOf k) r).2 with
 |none =>
  intro q3 p3;have q3:Ending.returned v=.returned Z:=q3;have p3:(De.ask s k tag least most).2=De.none0:=p3;refine⟨q1,hst,?_,?_⟩
  ·rw[p3];obtain rfl:=Ending.returned.inj q3;exact hZ
  ·rw[p3];exact zIY k
 |some V =>
  intro q3 p3;obtain⟨v',e,hv⟩:∃ v',Ending.returned v=.returned v'/\V w' v':=q3
  obtain rfl:=Ending.returned.inj e;obtain⟨l,hl,hs⟩:∃ l,r l=.ok V/\De.said k least most l=.ok (De.ask s k tag least most).2:=p3
  have:=ht l;rw[hs]at this;obtain⟨V2,e2,h3⟩:∃ V,r l=.ok V/\∀ W v,V W v->AnsV w k (De.ask s k tag least most).2 W v:=this
  rw[hl]at e2;obtain rfl:=Except.ok.inj e2;exact⟨q1,hst,h3 _ _ hv,zIo hs⟩
theorem zEE (w:World) (k:Int) (W:World) (hw:w.heap.size<=W.heap.size):AnsV w k De.none0 W (if k=5 then .bool false else if k=6 then .slice none 0 0 else if k=7∨k=8 then .string ⟨#[]⟩else .int .i64 0):=by
 unfold AnsV;by_cases h5:k=5
 ·rw[if_pos h5,if_pos h5];rfl
 rw[if_neg h5,if_neg h5];by_cases h6:k=6
 ·rw[if_pos h6,if_pos h6];exact⟨⟨none,0,rfl⟩,fun j hj=>hj.2,fun W' _=>⟨⟨by simp[De.none0],none,0,0,0,rfl,Nat.le_refl _,fun h=>absurd h (by simp[De.none0]),fun j hj=>absurd hj (by simp[De.none0])⟩,fun n c e=>by cases e;exact⟨rfl,rfl⟩⟩⟩
 rw[if_neg h6,if_neg h6];by_cases h7:k=7∨k=8
 ·rw[if_pos h7,if_pos h7];rfl
 ·rw[if_neg h7,if_neg h7];rfl
end
section
variable {A:Nat->Addr} {W0 w:World} {F:Nat->Prop} {b:Nat} {s:De.Rd}
end
section
variable {A:Nat->Addr} {W0 w:World} {F:Nat->Prop} {b:Nat} {s:De.Rd}
theorem zLZ {k:Int} {x:De.Val} {w W:World} {v:Value} (h:AnsV w k x W v) (h1:only k x) (hk:k≠5/\k≠6/\k≠7/\k≠8):v=.int .i64 x.n/\x.is=false/\x.b=[]/\x.t=[]:=by
 unfold AnsV at h;unfold only at h1;rw[if_neg hk.1,if_neg hk.2.1,if_neg (by omega)]at h h1;exact⟨h,by rw[h1];rfl,by rw[h1];rfl,by rw[h1];rfl⟩
theorem zG6 {k:Int} {x:De.Val} {w W:World} {v:Value} (h:AnsV w k x W v) (h1:only k x) (hk:k=7∨k=8):v=.string (strOf x.t)/\x.n=0/\x.is=false/\x.b=[]:=by
 unfold AnsV at h;unfold only at h1;rw[if_neg (by omega),if_neg (by omega),if_pos hk]at h h1;exact⟨h,by rw[h1];rfl,by rw[h1];rfl,by rw[h1];rfl⟩
end
structure RdN (A:Nat->Addr) (w:World):Prop where
 errs:AllErrs w A
 text:zKK A w
 oid:zL4 A w
structure RunR (A:Nat->Addr) (W0 w:World) (F F':Nat->Prop) (b:Nat) (s':De.Rd) (wr:World):Prop where
 upto:Upto F w wr
 rd:PrR A W0 F' b s' wr
 sub:∀ k,F' k->Ext F w wr k
section
variable {A:Nat->Addr} {W0 w w0 w2 wr:World} {F F':Nat->Prop} {b:Nat} {s s' s2:De.Rd} {e:Ending}
theorem RunR.start (h:PrR A W0 F b s w):RunR A W0 w F F b s w:=⟨Upto.refl F w,h,fun k hk=>.inl hk⟩
theorem RunR.still (h:RunR A W0 w F F' b s' wr) (hg:wr.grownBy w2 none):RunR A W0 w F F' b s' w2 :=
 ⟨h.upto.trans (Upto.of_grown F hg) (fun _ _ h=>h),h.rd.still hg,fun k hk=>by
  have:=hg.size;rcases h.sub k hk with h1|h1
  ·exact .inl h1
  ·exact .inr ⟨h1.1,by omega⟩⟩
theorem RunR.call (hw:∀ k,F k->k<w.heap.size) (h:RunR A W0 w F F' b s' wr) (hu:Upto F' wr w2) (hr:PrR A W0 (Ext F' wr w2) b s2 w2):RunR A W0 w F (Ext F' wr w2) b s2 w2:=by
 have h1:=h.upto.size;have h2:=hu.size;refine⟨h.upto.trans hu (fun k hk hf=>?_),hr,fun k hk=>?_⟩
 ·rcases h.sub k hf with hf|hf
  ·exact hf
  ·omega
 ·rcases hk with hk|hk
  ·rcases h.sub k hk with h3|h3
   ·exact .inl h3
   ·exact .inr ⟨h3.1,by omega⟩
  ·exact .inr ⟨by omega,hk.2⟩
theorem RunR.kept {k:Nat} (h:RunR A W0 w F F' b s' wr) (hk:k<w.heap.size) (hf:¬ F k):wr.heap[k]?=w.heap[k]?:=h.upto.block k hk hf
theorem RunR.off {k:Nat} (h:RunR A W0 w F F' b s' wr) (hk:k<w.heap.size) (hf:¬ F k):¬ F' k:=fun h'=>by
 rcases h.sub k h' with h1|h1
 ·exact hf h1
 ·omega
theorem RunR.boxed {B:Nat} (hF:∀ k,F k->W0.heap.size<=k/\k<w0.heap.size) (hb:W0.grownBy w0 none) (hg:w0.grownBy w none) (h:RunR A W0 w F F' b s' wr) (hB:w0.heap.size<=B) (hB2:B<w.heap.size) (hu:Upto (fun k=>k=B) wr w2):Upto F w0 w2/\PrR A W0 (Ext F w0 w2) b s' w2:=by
 have h0:=hb.size;have h1:=hg.size;have h2:=h.upto.size;have h3:=hu.size;have hoff:=h.off hB2 (fun hf=>by have:=(hF B hf).2;omega);refine⟨((Upto.of_grown F hg).trans h.upto (fun _ _ h=>h)).trans hu (fun k hk hf=>by omega),?_⟩;refine(h.rd.other (G:=fun k=>k=B) (G':=fun k=>k=B) (fun k hk=>by omega) ⟨hu,fun _ _ h=>h⟩ (fun k hk hf=>hoff (by rw[<-hk];exact hf))).wide (fun k hk=>?_) (zAo hb hF (by omega));rcases h.sub k hk with h4|h4
 ·exact .inl h4
 ·exact .inr ⟨by omega,by omega⟩
end
section
variable {A:Nat->Addr} {W0 w:World} {F:Nat->Prop} {b:Nat} {s:De.Rd}
theorem zMd (h:PrR A W0 F b s w) (hA:RdN A W0) (hnx:∀ l,Top1 s l->l.length<=2000) (tag least most:Int) (hm:inT most) :
  Calls prog 81 #[.pointer (some ⟨b,0,none⟩),.int .i64 most] w fun e w'=>e=.returned (.string (strOf (De.ask s 7 tag least most).2.t))/\Upto F w w'/\PrR A W0 (Ext F w w') b (De.ask s 7 tag least most).1 w' :=
 (zHi h hA.errs hA.text hnx most hm).mono (fun e w' ⟨v,he,hp⟩=>by
  subst he;have hp2:=zGx h (by decide) (by decide) (by decide) (zHa w least most) hp (zEE w 7 w' hp.1.size) (tag:=tag);obtain⟨h1,_⟩:=zG6 hp2.ans hp2.one (.inl rfl);exact⟨by rw[h1],hp2.upto,hp2.rd⟩)
theorem zML (h:PrR A W0 F b s w) (hA:RdN A W0) (tag least most:Int) :
  Calls prog 80 #[.pointer (some ⟨b,0,none⟩)] w fun e w'=>e=.returned (.string (strOf (De.ask s 8 tag least most).2.t))/\Upto F w w'/\PrR A W0 (Ext F w w') b (De.ask s 8 tag least most).1 w' :=
 (zIs h hA.errs hA.oid).mono (fun e w' ⟨v,he,hp⟩=>by
  subst he;have hp2:=zGx h (by decide) (by decide) (by decide) (zIe w least most) hp (zEE w 8 w' hp.1.size) (tag:=tag);obtain⟨h1,_⟩:=zG6 hp2.ans hp2.one (.inr rfl);exact⟨by rw[h1],hp2.upto,hp2.rd⟩)
end
theorem zI7 {A:Nat->Addr} {W0 w:World} {F:Nat->Prop} {b m:Nat} {s:De.Rd} (h:PrR A W0 F b s w) (hR:RdN A W0) (hL:LeftN m s) :
  Calls prog 79 #[.pointer (some ⟨b,0,none⟩)] w fun e w'=>e=.returned (.agg #[.string (Na.getPart s).2.1,.string (Na.getPart s).2.2])/\Upto F w w'/\PrR A W0 (Ext F w w') b (Na.getPart s).1 w':=by
 have hI:(prog.info? 88).map (·.size)=some 2:=by kernel_rfl
 obtain⟨w1,hw1⟩:∃ w1,w1=w.alloc (.cells #[.string ⟨#[]⟩,.string ⟨#[]⟩] 88):=⟨_,rfl⟩
 have hg1:w.grownBy w1 none:=by rw[hw1];exact World.grownBy_alloc _ _ _
 have hs1:w1.heap.size=w.heap.size+1:=by rw[hw1];exact zAe _ _
 have hb1:w1.heap[w.heap.size]?=some (.cells #[.string ⟨#[]⟩,.string ⟨#[]⟩] 88 (0,0)):=by rw[hw1];exact alloc_at _ _
 have HW1:=hid hw1;have HG1:=hid hg1;have HS1:=hid hs1;have HB1:=hid hb1;have HX:=hid h;have HW:=hid (fun k (hk:F k)=>(Nat.lt_of_lt_of_le (h.own k hk).2 hg1.size:k<w1.heap.size));have HNf:Hid (¬ F w.heap.size):=hid (fun hf=>Nat.lt_irrefl _ (h.own _ hf).2);have R1:=hid (RunR.start (h.still hg1));have hLe:=hL.enter 48;rw[<-zBs s 48 0 0]at hLe;have HEn:Hid (Calls prog 34 #[.pointer (some ⟨b,0,none⟩),.int .i64 48] w1 fun e w'=>Upto F w1 w'/\PrR A W0 (Ext F w1 w') b (De.ask s 1 48 0 0).1 w'/\∃ q,e=.returned (.bool q)):=hid ((zCd (h.still hg1) hR.errs 48).mono (fun e w' ⟨h1,h2,h3⟩=>⟨h1,by rw[zBs];exact h2,_,h3⟩));obtain⟨s1,hs1⟩:∃ s1,s1=(De.ask s 1 48 0 0).1:=⟨_,rfl⟩
 have hL2:=hLe.said 8 0 0 0 (by decide) (by decide);rw[<-hs1]at HEn hLe hL2;have HOi:=hid (fun F' W (h:PrR A W0 F' b s1 W)=>zML h hR 0 0 0);obtain⟨s2,hs2⟩:∃ s2,s2=(De.ask s1 8 0 0 0).1:=⟨_,rfl⟩
 obtain⟨x1,hx1⟩:∃ x1,x1=strOf (De.ask s1 8 0 0 0).2.t:=⟨_,rfl⟩
 rw[<-hs2,<-hx1]at HOi;rw[<-hs2]at hL2;have HTx:=hid (fun F' W (h:PrR A W0 F' b s2 W)=>zMd h hR hL2.first 0 0 64 (by unfold inT;omega));obtain⟨s3,hs3⟩:∃ s3,s3=(De.ask s2 7 0 0 64).1:=⟨_,rfl⟩
 obtain⟨x2,hx2⟩:∃ x2,x2=strOf (De.ask s2 7 0 0 64).2.t:=⟨_,rfl⟩
 rw[<-hs3,<-hx2]at HTx;have HLv:=hid (fun F' W (h:PrR A W0 F' b s3 W)=>zCc h hR.errs);obtain⟨s4,hs4⟩:∃ s4,s4=De.leave s3:=⟨_,rfl⟩
 rw[<-hs4]at HLv;have hget:Na.getPart s=(s4,(x1,x2)):=by
  unfold Na.getPart;rw[<-hs1,<-hs2,<-hs3,<-hx1,<-hx2,zBL,<-hs4]
 rw[hget];clear h hR hL hw1 hg1 hb1 hLe hL2 hs1 hs2 hx1 hs3 hx2 hs4 hget;go_enter func79,ntmps79
 go_wp2_with (first
  |(go_at_call 34;rw[<-HW1.out];(with_reducible refine HEn.out.mono ?_);rintro e w2 ⟨hu2,hp2,q2,rfl⟩;have R2:=hid (R1.out.call HW.out hu2 hp2);clear hu2 hp2)
  |(go_at_call 80;(with_reducible refine(HOi.out _ _ R2.out.rd).mono ?_);rintro e w3 ⟨rfl,hu3,hp3⟩;have R3:=hid (R2.out.call HW.out hu3 hp3);clear hu3 hp3)
  |(go_at_call 81;(with_reducible refine(HTx.out _ _ R3.out.rd).mono ?_);rintro e w4 ⟨rfl,hu4,hp4⟩;have R4:=hid (R3.out.call HW.out hu4 hp4);clear hu4 hp4)
  |(go_at_call 40;have g5:=World.grownBy_alloc w4 (.cells #[.string x1,.string x2] 88) none;have R5:=hid (R4.out.still g5);have hlt4:∀ k,Ext (Ext (Ext F w1 w2) w2 w3) w3 w4 k->k≠w4.heap.size:=fun k hk=>Nat.ne_of_lt (R4.out.rd.own k hk).2;(with_reducible refine(HLv.out _ _ R5.out.rd).mono ?_);rintro e w6 ⟨rfl,hu6,hp6⟩;have R6:=hid (R5.out.call HW.out hu6 hp6);have HB6:=hid ((hu6.block w4.heap.size (zAi (alloc_at w4 (.cells #[.string x1,.string x2] 88))) (fun hf=>hlt4 _ hf rfl)).trans (alloc_at w4 (.cells #[.string x1,.string x2] 88)));have HBr:=hid ((R6.out.kept (zAi HB1.out) HNf.out).trans HB1.out);clear hu6 hp6 hlt4)
  |(refine wpList_load_row (by rfl) 88 (.tmp 3) (by rfl) w4.heap.size (by rfl) 88 #[.string x1,.string x2] (0,0) _ HB6.out underlying88 rfl hI ?_;have y0:=zAh HBr.out 0;have y1:=zAh HBr.out 1;have z0:=cell_blk HBr.out 0 rfl;have z1:=cell_blk HBr.out 1 rfl))
 refine bodyPost_ret (v:=.agg #[.string x1,.string x2]) ?_ rfl ⟨rfl,R6.out.boxed HX.out.own HX.out.base HG1.out (Nat.le_refl _) (by rw[HS1.out];exact Nat.lt_succ_self _) ((zA8 (M:=fun k=>k=w.heap.size) rfl).trans (zA8 (M:=fun k=>k=w.heap.size) rfl) (fun _ _ h=>h))⟩;exact results_cell_row results79 _ _ w.heap.size _ _ (0,0) _ rfl (zDl HBr.out _ _) underlying88 rfl hI
theorem zDX {A:Nat->Addr} {w:World} (h:AllErrs w A):NameErr w A:=⟨by
 have e5:=zAs h 9 (by decide);simp only[errVars,List.getD_cons_zero,List.getD_cons_succ,Nat.add_one_sub_one]at e5;exact e5⟩
theorem zFG {w:World} {b:Nat} {x y z:Value}:Upto (fun k=>k=b) w (((w.setCell ⟨b,0,none⟩ x).setCell ⟨b,1,none⟩ y).setCell ⟨b,2,none⟩ z) :=
 ((zA8 (M:=fun k=>k=b) rfl).trans (zA8 (M:=fun k=>k=b) rfl) (fun _ _ h=>h)).trans (zA8 (M:=fun k=>k=b) rfl) (fun _ _ h=>h)
theorem zKg {A:Nat->Addr} {W0 w:World} {F:Nat->Prop} {b m:Nat} {s:De.Rd} (h:PrR A W0 F b s w) (hR:RdN A W0) (hWd:Words W0) (hL:LeftN m s) :
  Calls prog 36 #[.pointer (some ⟨b,0,none⟩)] w fun e w'=>e=.returned (Na.val (Na.getS s).2)/\Upto F w w'/\PrR A W0 (Ext F w w') b (Na.getS s).1 w':=by
 have hI:(prog.info? 23).map (·.size)=some 3:=by kernel_rfl
 obtain⟨w1,hw1⟩:∃ w1,w1=w.alloc (.cells #[.int .i64 0,.string ⟨#[]⟩,.string ⟨#[]⟩] 23):=⟨_,rfl⟩
 have hg1:w.grownBy w1 none:=by rw[hw1];exact World.grownBy_alloc _ _ _
 have hs1:w1.heap.size=w.heap.size+1:=by rw[hw1];exact zAe _ _
 have hb1:w1.heap[w.heap.size]?=some (.cells #[.int .i64 0,.string ⟨#[]⟩,.string ⟨#[]⟩] 23 (0,0)):=by rw[hw1];exact alloc_at _ _
 have HW1:=hid hw1;have HG1:=hid hg1;have HS1:=hid hs1;have HB1:=hid hb1;have HX:=hid h;have HW:=hid (fun k (hk:F k)=>(Nat.lt_of_lt_of_le (h.own k hk).2 hg1.size:k<w1.heap.size));have HNf:Hid (¬ F w.heap.size):=hid (fun hf=>Nat.lt_irrefl _ (h.own _ hf).2);have R1:=hid (RunR.start (h.still hg1));have HRow:Hid (Calls prog 78 #[.pointer (some ⟨b,0,none⟩),.int .i64 48,.int .i64 8,.func (.func 79) #[] #[]] w1 fun e w'=>∃ a c,e=.returned (.slice a (zA0 Na.getPart s 48 8).2.length c)/\Upto F w1 w'/\PrR A W0 (Ext F w1 w') b (zA0 Na.getPart s 48 8).1 w'/\Sup (fun k=>w1.heap.size<=k/\k<w'.heap.size) w' (fun W=>Prts W (.slice a (zA0 Na.getPart s 48 8).2.length c) (zA0 Na.getPart s 48 8).2)):=hid (zHw (h.still hg1) hR.errs 48 8 79 #[] Na.getPart (zKM m) (fun _ _=>by simp[go_sem]) ⟨by omega,hL.enter 48⟩ (fun j s' hj _ hlt=>⟨by omega,hj.2.part⟩) (fun j s' hj=>by have:=hj.1;omega) (fun j F' s' W hj _ hr=>zI7 hr hR hj.2));obtain⟨hsm1,hsm2⟩:=zEW s;have hend:=zKo s;obtain⟨s2,hs2⟩:∃ s2,s2=(zA0 Na.getPart s 48 8).1:=⟨_,rfl⟩
 obtain⟨l,hl⟩:∃ l,l=(zA0 Na.getPart s 48 8).2:=⟨_,rfl⟩
 rw[<-hs2,<-hl]at HRow hend;rw[<-hl]at hsm1 hsm2;have HEr:Hid (∀ F' W,PrR A W0 F' b s2 W->Calls prog 39 #[.pointer (some ⟨b,0,none⟩)] W fun e w'=>e=.returned (zAu A s2.e)/\w'=W):=hid (fun F' W h=>zCM h);have HOf:=hid (fun v W (hW:W0.grownBy W none) (hP:Prts W v l)=>zLC A v l W hP hsm1 hsm2 (hWd.grown hW) (zDX (hR.errs.grown hW)));rw[hend];clear hR hWd hL hw1 hg1 hb1 hs1 hs2 hl hend hsm1 hsm2;by_cases he:s2.e=0
 ·rw[zAu,if_pos he]at HEr;by_cases hq:Na.right (Na.s0 l)=true/\Na.parts (Na.s0 l)=l
  ·have hge:Na.getEnd s2 l=(s2,Na.s0 l):=by unfold Na.getEnd;rw[if_neg (by rw[he];decide),if_pos hq]
   have hof:OfV A l=#[Na.val (Na.s0 l),.nilIface]:=by unfold OfV;rw[if_pos hq]
   rw[hge];rw[hof]at HOf;have hv:Na.val (Na.s0 l)=.agg #[.int .i64 (Na.s0 l).k,.string (Na.s0 l).sp,.string (Na.s0 l).nm]:=rfl;rw[hv]at HOf ⊢;obtain⟨k,hk⟩:∃ k,k=(Na.s0 l).k:=⟨_,rfl⟩
   obtain⟨sp,hsp⟩:∃ sp,sp=(Na.s0 l).sp:=⟨_,rfl⟩
   obtain⟨nm,hnm⟩:∃ nm,nm=(Na.s0 l).nm:=⟨_,rfl⟩
   rw[<-hk,<-hsp,<-hnm]at HOf ⊢;clear h hge hof hv hk hsp hnm hq he;go_enter func36,ntmps36
   go_wp2_with (first
    |(go_at_call 78;rw[<-HW1.out];(with_reducible refine HRow.out.mono ?_);rintro e w2 ⟨ra,rc,rfl,hu2,hp2,hq2⟩;have R2:=hid (R1.out.call HW.out hu2 hp2);have Q2:=hid hq2;clear hu2 hp2 hq2)
    |(go_at_call 39;(with_reducible refine(HEr.out _ _ R2.out.rd).mono ?_);rintro e w3 ⟨rfl,rfl⟩)
    |(go_at_call 14;(with_reducible refine(HOf.out _ _ R2.out.rd.base Q2.out.now).mono ?_);rintro e w4 ⟨rfl,hg4⟩;have R4:=hid (R2.out.still hg4);have HBr:=hid (zAt (o:=.cells #[.int .i64 k,.string sp,.string nm] 23) ((R4.out.kept (zAi HB1.out) HNf.out).trans HB1.out));clear hg4)
    |(refine wpList_load_row (by rfl) 23 (.tmp 4) (by rfl) w4.heap.size (by rfl) 23 #[.int .i64 k,.string sp,.string nm] (0,0) _ (alloc_at w4 _) underlying23 rfl hI ?_;have y0:=zAh HBr.out 0;have y1:=zAh HBr.out 1;have y2:=zAh HBr.out 2;have z0:=cell_blk HBr.out 0 rfl;have z1:=cell_blk HBr.out 1 rfl;have z2:=cell_blk HBr.out 2 rfl))
   refine bodyPost_ret (v:=.agg #[.int .i64 k,.string sp,.string nm]) ?_ rfl ⟨rfl,(R4.out.still (World.grownBy_alloc _ _ _)).boxed HX.out.own HX.out.base HG1.out (Nat.le_refl _) (by rw[HS1.out];exact Nat.lt_succ_self _) zFG⟩;exact results_cell_row results36 _ _ w.heap.size _ _ (0,0) _ rfl (set3 HBr.out) underlying23 rfl hI
  ·have hge:Na.getEnd s2 l=({ s2 with e:=9 },Na.none9):=by unfold Na.getEnd;rw[if_neg (by rw[he];decide),if_neg hq]
   have hof:OfV A l=#[Na.val ⟨0,Na.e0,Na.e0⟩,errV A 9]:=by unfold OfV;rw[if_neg hq]
   rw[hge];rw[hof]at HOf;have hv:Na.val ⟨0,Na.e0,Na.e0⟩=.agg #[.int .i64 0,.string ⟨#[]⟩,.string ⟨#[]⟩]:=rfl;have hv2:Na.val Na.none9=.agg #[.int .i64 0,.string ⟨#[]⟩,.string ⟨#[]⟩]:=rfl;rw[hv]at HOf
   show Calls _ _ _ _ fun e w'=>e=.returned (Na.val Na.none9)/\Upto F w w'/\PrR A W0 (Ext F w w') b { s2 with e:=9 } w'
   rw[hv2];have HFl:=hid (fun F' W (h:PrR A W0 F' b s2 W)=>by
    have:=zAF h 9 (by decide);rw[if_pos he]at this;exact this)
   obtain⟨s9,hs9⟩:∃ s9:De.Rd,s9={ s2 with e:=9 }:=⟨_,rfl⟩
   rw[<-hs9]at HFl ⊢;clear h hge hof hv hv2 hq he hs9;go_enter func36,ntmps36
   go_wp2_with (first
    |(go_at_call 78;rw[<-HW1.out];(with_reducible refine HRow.out.mono ?_);rintro e w2 ⟨ra,rc,rfl,hu2,hp2,hq2⟩;have R2:=hid (R1.out.call HW.out hu2 hp2);have Q2:=hid hq2;clear hu2 hp2 hq2)
    |(go_at_call 39;(with_reducible refine(HEr.out _ _ R2.out.rd).mono ?_);rintro e w3 ⟨rfl,rfl⟩)
    |(go_at_call 14;(with_reducible refine(HOf.out _ _ R2.out.rd.base Q2.out.now).mono ?_);rintro e w4 ⟨rfl,hg4⟩;have R4:=hid (R2.out.still hg4);clear hg4)
    |(go_at_call 82;have R5:=hid (R4.out.still (World.grownBy_alloc w4 (.cells #[.int .i64 0,.string ⟨#[]⟩,.string ⟨#[]⟩] 23) none));have hlt4:=hid (fun k hk=>(Nat.ne_of_lt (R4.out.rd.own k hk).2:k≠w4.heap.size));(with_reducible refine(HFl.out _ _ R5.out.rd).mono ?_);rintro e w6 ⟨rfl,hu6,hp6⟩;have R6:=hid (R5.out.call HW.out hu6 hp6);have HB6:=hid ((hu6.block w4.heap.size (zAi (alloc_at w4 (.cells #[.int .i64 0,.string ⟨#[]⟩,.string ⟨#[]⟩] 23))) (fun hf=>hlt4.out _ hf rfl)).trans (alloc_at w4 (.cells #[.int .i64 0,.string ⟨#[]⟩,.string ⟨#[]⟩] 23)));have HBr:=hid ((R6.out.kept (zAi HB1.out) HNf.out).trans HB1.out);clear hu6 hp6 hlt4)
    |(refine wpList_load_row (by rfl) 23 (.tmp 4) (by rfl) w4.heap.size (by rfl) 23 #[.int .i64 0,.string ⟨#[]⟩,.string ⟨#[]⟩] (0,0) _ HB6.out underlying23 rfl hI ?_;have y0:=zAh HBr.out 0;have y1:=zAh HBr.out 1;have y2:=zAh HBr.out 2;have z0:=cell_blk HBr.out 0 rfl;have z1:=cell_blk HBr.out 1 rfl;have z2:=cell_blk HBr.out 2 rfl))
   refine bodyPost_ret (v:=.agg #[.int .i64 0,.string ⟨#[]⟩,.string ⟨#[]⟩]) ?_ rfl ⟨rfl,R6.out.boxed HX.out.own HX.out.base HG1.out (Nat.le_refl _) (by rw[HS1.out];exact Nat.lt_succ_self _) zFG⟩;exact results_cell_row results36 _ _ w.heap.size _ _ (0,0) _ rfl (set3 HBr.out) underlying23 rfl hI
 ·have hge:Na.getEnd s2 l=(s2,Na.none9):=by unfold Na.getEnd;rw[if_pos he]
  rw[hge];have hv2:Na.val Na.none9=.agg #[.int .i64 0,.string ⟨#[]⟩,.string ⟨#[]⟩]:=rfl
  show Calls _ _ _ _ fun e w'=>e=.returned (Na.val Na.none9)/\Upto F w w'/\PrR A W0 (Ext F w w') b s2 w'
  rw[hv2];rw[zAu,if_neg he]at HEr;clear h hge hv2 he HOf;go_enter func36,ntmps36
  go_wp2_with (first
   |(go_at_call 78;rw[<-HW1.out];(with_reducible refine HRow.out.mono ?_);rintro e w2 ⟨ra,rc,rfl,hu2,hp2,hq2⟩;have R2:=hid (R1.out.call HW.out hu2 hp2);have Q2:=hid hq2;clear hu2 hp2 hq2)
   |(go_at_call 39;(with_reducible refine(HEr.out _ _ R2.out.rd).mono ?_);rintro e w3 ⟨rfl,rfl⟩;have HBr:=hid ((R2.out.kept (zAi HB1.out) HNf.out).trans HB1.out);have y0:=zAh HBr.out 0;have y1:=zAh HBr.out 1;have y2:=zAh HBr.out 2;have z0:=cell_blk HBr.out 0 rfl;have z1:=cell_blk HBr.out 1 rfl;have z2:=cell_blk HBr.out 2 rfl))
  refine bodyPost_ret (v:=.agg #[.int .i64 0,.string ⟨#[]⟩,.string ⟨#[]⟩]) ?_ rfl ⟨rfl,R2.out.boxed HX.out.own HX.out.base HG1.out (Nat.le_refl _) (by rw[HS1.out];exact Nat.lt_succ_self _) zFG⟩;exact results_cell_row results36 _ _ w.heap.size _ _ (0,0) _ rfl (set3 HBr.out) underlying23 rfl hI
structure RowF (W0 w:World) (F F':Nat->Prop) (b:Nat) (s':De.Rd) (n:Nat) (xs:List Value) (r:Value) (wr:World):Prop where
 upto:Upto F w wr
 rd:RefR W0 F' b s' wr
 sub:∀ k,F' k->Ext F w wr k
 row:wr.ownsRow w.heap.size 88 2 r n xs
 free:∀ k,r.ownBlock=some k->¬ F' k
section
variable {W0 w w0 w2 w3 wr:World} {F F':Nat->Prop} {b n m:Nat} {s s' s2:De.Rd} {xs ys:List Value} {r r2:Value}
theorem RowF.start (h:RefR W0 F b s w):RowF W0 w F F b s 0 (cellsP []) (.slice none 0 0) w :=
 ⟨Upto.refl F w,h,fun k hk=>.inl hk,⟨rfl,.inl ⟨rfl,rfl⟩⟩,by simp[Value.ownBlock]⟩
theorem RowF.still (h:RowF W0 w F F' b s' n xs r wr) (hg:wr.grownBy w2 none):RowF W0 w F F' b s' n xs r w2 :=
 ⟨h.upto.trans (Upto.of_grown F hg) (fun _ _ h=>h),h.rd.still hg,fun k hk=>by
  have:=hg.size;rcases h.sub k hk with h1|h1
  ·exact .inl h1
  ·exact .inr ⟨h1.1,by omega⟩,zAM h.row (Upto.of_grown (fun _=>False) hg) (fun _ _ h=>h),h.free⟩
theorem RowF.call (hw:∀ k,F k->k<w.heap.size) (h:RowF W0 w F F' b s' n xs r wr) (hu:Upto F' wr w2) (hr:RefR W0 (Ext F' wr w2) b s2 w2):RowF W0 w F (Ext F' wr w2) b s2 n xs r w2:=by
 have h1:=h.upto.size;have h2:=hu.size;refine⟨h.upto.trans hu (fun k hk hf=>?_),hr,fun k hk=>?_,zAM h.row hu h.free,fun k hk hf=>?_⟩
 ·rcases h.sub k hf with hf|hf
  ·exact hf
  ·omega
 ·rcases hk with hk|hk
  ·rcases h.sub k hk with h3|h3
   ·exact .inl h3
   ·exact .inr ⟨h3.1,by omega⟩
  ·exact .inr ⟨by omega,hk.2⟩
 ·rcases hf with hf|hf
  ·exact h.free k hk hf
  ·have:=(h.row.lt k hk).2;omega
theorem RowF.more (hb:W0.grownBy w none) (h:RowF W0 w F F' b s' n xs r wr) (h5:wr.grownBy w2 none) (ho:w3.ownsRow w.heap.size 88 2 r2 m ys) (hg:w2.grownBy w3 r.ownBlock) (hbk:r2.ownBlock=r.ownBlock∨r2.ownBlock=some w2.heap.size):RowF W0 w F F' b s' m ys r2 w3:=by
 have h2:=h.still h5;have hub:Upto (fun k=>r.ownBlock=some k) w2 w3:=Upto.of_row hg (fun k hk=>.inl hk);have hlow:∀ k,r.ownBlock=some k->w.heap.size<=k:=fun k hk=>(h2.row.lt k hk).1
 have hs:=hb.size;refine⟨h2.upto.trans hub (fun k hk hf=>?_),h2.rd.other (G:=fun k=>r.ownBlock=some k) (G':=fun k=>r.ownBlock=some k) (fun k hk=>by have:=hlow k hk;omega) ⟨hub,fun _ _ h=>h⟩ (fun k hk hf=>h2.free k hk hf),fun k hk=>?_,ho,fun k hk hf=>?_⟩
 ·have:=hlow k hf;omega
 ·have:=hub.size;rcases h2.sub k hk with h3|h3
  ·exact .inl h3
  ·exact .inr ⟨h3.1,by omega⟩
 ·rcases hbk with hbk|hbk
  ·exact h2.free k (by rw[<-hbk,hk]) hf
  ·rw[hk]at hbk;have e:=Option.some.inj hbk;have:=(h2.rd.own k hf).2;omega
theorem RowF.kept {k:Nat} (h:RowF W0 w F F' b s' n xs r wr) (hk:k<w.heap.size) (hf:¬ F k):wr.heap[k]?=w.heap[k]?:=h.upto.block k hk hf
theorem RowF.off {k:Nat} (h:RowF W0 w F F' b s' n xs r wr) (hk:k<w.heap.size) (hf:¬ F k):¬ F' k:=fun h'=>by
 rcases h.sub k h' with h1|h1
 ·exact hf h1
 ·omega
theorem RowF.cell (h:RowF W0 w F F' b s' n xs r wr):wr.cell? ⟨b,1,none⟩=some (.int .i64 (s'.e:Nat))/\wr.frozen? ⟨b,1,none⟩=false/\b<wr.heap.size:=by
 obtain⟨lv,h3,_⟩:=h.rd.body;exact⟨cell_blk h3 1 rfl,zAh h3 1,zAi h3⟩
theorem RowF.boxed {B:Nat} (hF:∀ k,F k->W0.heap.size<=k/\k<w0.heap.size) (hb:W0.grownBy w0 none) (hg:w0.grownBy w none) (h:RowF W0 w F F' b s' n xs r wr) (hB:w0.heap.size<=B) (hB2:B<w.heap.size) (hu:Upto (fun k=>k=B) wr w2):Upto F w0 w2/\RefR W0 (Ext F w0 w2) b s' w2:=by
 have h0:=hb.size;have h1:=hg.size;have h2:=h.upto.size;have h3:=hu.size;have hoff:=h.off hB2 (fun hf=>by have:=(hF B hf).2;omega);refine⟨((Upto.of_grown F hg).trans h.upto (fun _ _ h=>h)).trans hu (fun k hk hf=>by omega),?_⟩;refine(h.rd.other (G:=fun k=>k=B) (G':=fun k=>k=B) (fun k hk=>by omega) ⟨hu,fun _ _ h=>h⟩ (fun k hk hf=>hoff (by rw[<-hk];exact hf))).wide (fun k hk=>?_) (zAo hb hF (by omega));rcases h.sub k hk with h4|h4
 ·exact .inl h4
 ·exact .inr ⟨by omega,by omega⟩
end
theorem zDS {α:Type} {G:De.Rd->De.Rd×α}:∀ (f:Nat) (s:De.Rd) (l:List α),∀ p∈l,p∈(rowG G f s l).2
 |0,s,l,p,h=>by rw[rowG];exact h
 |f+1,s,l,p,h=>by
  rw[rowG];by_cases hm:De.more s=true
  ·rw[if_pos hm];exact zDS f _ _ p (List.mem_append_left _ h)
  ·rw[if_neg hm];exact h
theorem RowF.asks {W0 w wr:World} {F F':Nat->Prop} {b n m:Nat} {s':De.Rd} {xs:List Value} {r:Value} (hw:∀ k,F k->k<w.heap.size) (h:RowF W0 w F F' b s' n xs r wr) (hL:LeftN m s') (hm:m<=2000) (k tag least most:Int) (hk:k=1∨k=2∨k=3∨k=7∨k=8:=by omega) :
  Calls prog 35 #[.pointer (some ⟨b,0,none⟩),.agg #[.int .i64 k,.int .i64 tag,.int .i64 least,.int .i64 most]] wr fun e w'=>∃ y0 y1 y2 y3,e=.returned (.agg #[y0,y1,y2,y3,.string (strOf (De.ask s' k tag least most).2.t)])/\∃ F2,RowF W0 w F F2 b (De.ask s' k tag least most).1 n xs r w' :=
 (zDe h.rd k tag least most hk (by have:=hL.lev;omega) hL.top).mono (fun e w' hp=>by
  obtain⟨a,c,S,he,hS,_⟩:=hp.ans;refine⟨.int .i64 0,.int .i64 (De.ask s' k tag least most).2.n,.bool (De.ask s' k tag least most).2.is,.slice a (De.ask s' k tag least most).2.b.length c,?_,_,h.call hw hp.upto hp.rd⟩;rw[he,<-hS,zCJ])
theorem zHB (y0 y1 y2 y3:Value) (S:ByteArray) (w:World):(Instr.field 63 (.agg #[y0,y1,y2,y3,.string S]) 4).run prog w=.ok (.string S) w:=by kernel_rfl
theorem zFY {W0 w:World} {F:Nat->Prop} {b m:Nat} {s:De.Rd} (h:RefR W0 F b s w) (hL:LeftN m s) (hm9:m<=900) :
  Calls prog 38 #[.pointer (some ⟨b,0,none⟩)] w fun e w'=>e=.returned (Na.val (Na.getS s).2)/\Upto F w w'/\RefR W0 (Ext F w w') b (Na.getS s).1 w':=by
 have hI:(prog.info? 23).map (·.size)=some 3:=by kernel_rfl
 have hIP:(prog.info? 88).map (fun i=>(i.zero,i.size,i.bytes))=some (some (.agg #[.string ⟨#[]⟩,.string ⟨#[]⟩]),2,32):=by kernel_rfl
 have HIP:=hid hIP;obtain⟨w1,hw1⟩:∃ w1,w1=w.alloc (.cells #[.int .i64 0,.string ⟨#[]⟩,.string ⟨#[]⟩] 23):=⟨_,rfl⟩
 have hg1:w.grownBy w1 none:=by rw[hw1];exact World.grownBy_alloc _ _ _
 have hs1:w1.heap.size=w.heap.size+1:=by rw[hw1];exact zAe _ _
 have hb1:w1.heap[w.heap.size]?=some (.cells #[.int .i64 0,.string ⟨#[]⟩,.string ⟨#[]⟩] 23 (0,0)):=by rw[hw1];exact alloc_at _ _
 have HW1:=hid hw1;have HG1:=hid hg1;have HS1:=hid hs1;have HB1:=hid hb1;have HX:=hid h;have HW:=hid (fun k (hk:F k)=>(Nat.lt_of_lt_of_le (h.own k hk).2 hg1.size:k<w1.heap.size));have HNf:Hid (¬ F w.heap.size):=hid (fun hf=>Nat.lt_irrefl _ (h.own _ hf).2);have HBs:Hid (W0.grownBy w1 none):=hid (zAb h.base hg1);have R1:Hid (RowF W0 w1 F F b s 0 (cellsP []) (.slice (some ⟨w1.heap.size,0,none⟩) 0 0) (w1.alloc (.cells #[] 88))):=hid ((RowF.start (h.still hg1)).more (w2:=w1) (zAb h.base hg1) (zAa _ _) ⟨rfl,.inr ⟨w1.heap.size,0,#[],rfl,Nat.le_refl _,alloc_at _ _,Nat.le_refl _,by unfold maxLen;omega,rfl,rfl⟩⟩ (World.grownBy_alloc _ _ _) (.inr rfl));obtain⟨W1,hW1⟩:∃ W1,W1=w1.alloc (.cells #[] 88):=⟨_,rfl⟩
 have HWW:=hid hW1;rw[<-hW1]at R1;have HEn:=hid (R1.out.asks HW.out hL (by omega) 1 48 0 0);rw[zBs]at HEn;obtain⟨s1,hs1'⟩:∃ s1,s1=(De.enter s 48).1:=⟨_,rfl⟩
 have H0:Hid (zKM m 0 s1):=hid ⟨by omega,by rw[hs1'];exact hL.enter 48⟩;have hgr:=zEv s;rw[<-hs1']at HEn hgr;have HGr:=hid hgr;have HSm:Hid (∀ l s',rowG Na.getPart (8-l.length) s' l=rowG Na.getPart 8 s1 []->∀ p∈l,p.2.size<=900):=hid (fun l s' hr=>fun p hp=>zEh (Q:=fun p=>p.2.size<=900) zIR 8 s1 [] (by simp) p (by rw[<-hr];exact zDS _ _ _ p hp));obtain⟨X,hX⟩:∃ X,X=Na.getS s:=⟨_,rfl⟩
 have HXx:=hid hX;rw[<-hX]at HGr ⊢;clear h hL hw1 hg1 hb1 hs1 hs1' hW1 hgr hX;go_enter func38,ntmps38
 go_wp2_with (go_at_call 35;rw[<-HW1.out,<-HWW.out];(with_reducible refine HEn.out.mono ?_);rintro e w2 ⟨y0,y1,y2,y3,rfl,h2⟩;have R2:=hid h2;clear h2)
 go_loopw [3] (fun r wr=>∃ (l:List Na.Pr) (s':De.Rd) (F':Nat->Prop),RowF W0 w1 F F' b s' l.length (cellsP l) r wr/\zKM m l.length s'/\rowG Na.getPart (8-l.length) s' l=rowG Na.getPart 8 s1 []) (fun r _=>200000-lenV r)
 case atStart =>
  obtain⟨F',hF'⟩:=R2.out;rw[HS1.out]at hF';exact⟨[],s1,F',hF',H0.out,rfl⟩
 case round =>
  obtain⟨l,s',F',hR,hJ,hrow⟩:=hrel;have R:=hid hR;have hl1:=hJ.1;have hL':=hJ.2;have HMo:=hid (zFZ hR.rd (by have:=hL'.lev;omega));obtain⟨ra,rg,rc,rfl,hrc,-,-,-,hrop⟩:=zAp hR.row;by_cases hm:De.more s'=true
  ·rw[hm]at HMo;by_cases hlt:l.length<8
   ·have HA1:=hid (fun F' W (h:RowF W0 w1 F F' b s' l.length (cellsP l) (.slice ra l.length rc) W)=>h.asks HW.out hL' (by omega) 1 48 0 0);have hL1:LeftN (m+l.length+1+1) (De.ask s' 1 48 0 0).1:=by rw[zBs];exact hL'.enter 48
    obtain⟨sa,hsa⟩:∃ sa,sa=(De.ask s' 1 48 0 0).1:=⟨_,rfl⟩
    rw[<-hsa]at HA1 hL1;have HA2:=hid (fun F' W (h:RowF W0 w1 F F' b sa l.length (cellsP l) (.slice ra l.length rc) W)=>h.asks HW.out hL1 (by omega) 8 0 0 0);have hL2:=hL1.said 8 0 0 0 (by decide) (by decide);obtain⟨sb,hsb⟩:∃ sb,sb=(De.ask sa 8 0 0 0).1:=⟨_,rfl⟩
    obtain⟨x1,hx1⟩:∃ x1,x1=strOf (De.ask sa 8 0 0 0).2.t:=⟨_,rfl⟩
    rw[<-hsb,<-hx1]at HA2;rw[<-hsb]at hL2;have HA3:=hid (fun F' W (h:RowF W0 w1 F F' b sb l.length (cellsP l) (.slice ra l.length rc) W)=>h.asks HW.out hL2 (by omega) 7 0 0 64);have hL3:=hL2.said 7 0 0 64 (by decide) (by decide);obtain⟨sc,hsc⟩:∃ sc,sc=(De.ask sb 7 0 0 64).1:=⟨_,rfl⟩
    obtain⟨x2,hx2⟩:∃ x2,x2=strOf (De.ask sb 7 0 0 64).2.t:=⟨_,rfl⟩
    rw[<-hsc,<-hx2]at HA3;rw[<-hsc]at hL3;have HA4:=hid (fun F' W (h:RowF W0 w1 F F' b sc l.length (cellsP l) (.slice ra l.length rc) W)=>h.asks HW.out hL3 (by omega) 2 0 0 0);obtain⟨sd,hsd⟩:∃ sd,sd=(De.ask sc 2 0 0 0).1:=⟨_,rfl⟩
    rw[<-hsd]at HA4;have hget:Na.getPart s'=(sd,(x1,x2)):=by
     unfold Na.getPart;rw[<-hsa,<-hsb,<-hsc,<-hsd,<-hx1,<-hx2]
    have HNx:Hid (zKM m (l.length+1) sd/\rowG Na.getPart (8-(l.length+1)) sd (l++[(x1,x2)])=rowG Na.getPart 8 s1 []):=hid ⟨⟨by omega,by
     have:=hL'.part;rw[hget]at this;exact this⟩,by
     rw[<-hrow,show 8-l.length=(8-(l.length+1))+1 by omega,zET hm,hget]⟩
    have hfd:∀ y0 y1 y2 y3 S w,(Instr.field 63 (.agg #[y0,y1,y2,y3,.string S]) 4).run prog w=.ok (.string S) w:=zHB
    obtain⟨n,hn⟩:∃ n,n=l.length:=⟨_,rfl⟩
    have hgeq:¬(8:Int)<=(n:Int):=by omega
    have HNn:=hid hn;rw[<-hn]at R HA1 HA2 HA3 HA4 ⊢;have HL8:Hid (n<=8):=hid (by omega);clear hR hJ hl1 hL' hrow hm hlt hL1 hL2 hL3 hsa hsb hsc hsd hx1 hx2 hget hn hrop;go_wp2_with (first
     |(go_at_call 84;(with_reducible refine HMo.out.mono ?_);rintro e w4 ⟨rfl,hg4⟩;have R4:=hid (R.out.still hg4);clear hg4)
     |(go_at_call 35;(with_reducible refine(HA1.out _ _ R4.out).mono ?_);rintro e w5 ⟨a0,a1,a2,a3,rfl,F5,h5⟩;have R5:=hid h5;clear h5)
     |(go_at_call 35;(with_reducible refine(HA2.out _ _ R5.out).mono ?_);rintro e w6 ⟨b0,b1,b2,b3,rfl,F6,h6⟩;have R6:=hid h6;clear h6)
     |(go_at_call 35;(with_reducible refine(HA3.out _ _ R6.out).mono ?_);rintro e w7 ⟨c0,c1,c2,c3,rfl,F7,h7⟩;have R7:=hid h7;clear h7)
     |(go_at_call 35;(with_reducible refine(HA4.out _ _ R7.out).mono ?_);rintro e w8 ⟨d0,d1,d2,d3,rfl,F8,h8⟩;have R8:=hid h8;clear h8)
     |(obtain⟨w9,hw9⟩:∃ w9,w9=w8.alloc (.cells #[.string x1,.string x2] 88):=⟨_,rfl⟩;rw[<-hw9];have g9:Hid (w8.grownBy w9 none):=hid (by rw[hw9];exact World.grownBy_alloc _ _ _);have b9:w9.heap[w8.heap.size]?=some (.cells #[.string x1,.string x2] 88 (0,0)):=(by rw[hw9];exact alloc_at _ _);refine zAH (by rfl) (.tmp 34) (.tmp 38) 26 (by rfl) w1.heap.size 88 (.agg #[.string ⟨#[]⟩,.string ⟨#[]⟩]) 2 32 underlying26 HIP.out rfl (by decide) (by decide) _ n (cellsP l) (by rfl) (R8.out.still g9.out).row ⟨w8.heap.size,0,none⟩ 1 1 [.string x1,.string x2] (by rfl) (by rfl) (fun q u hu=>by rw[addr_addO,Nat.zero_add];exact cell_blk b9 q (by simpa using hu)) (by intro u hu;simp at hu;rcases hu with rfl|rfl <;> rfl) (by have:=HL8.out;omega) (R8.out.still g9.out).upto.size ?_;intro v10 w10 ho10 hg10 hb10;have R10:=hid (R8.out.more HBs.out g9.out ho10 hg10 hb10);clear hw9 b9 ho10 hg10 hb10))
    have hr10:=R10.out.row;obtain⟨ra7,rg7,rc7,rfl,hrc7,-⟩:=zAp hr10;clear hr10;go_roundw
    case rel =>
     refine⟨l++[(x1,x2)],sd,F8,?_,?_,?_⟩
     ·rw[List.length_append,List.length_singleton,<-HNn.out,zCB];exact R10.out
     ·rw[List.length_append,List.length_singleton];exact HNx.out.1
     ·rw[List.length_append,List.length_singleton];exact HNx.out.2
    case measure =>
     have:=HL8.out;simp only[lenV];omega
   ·have hl8:l.length=8:=by omega
    obtain⟨s9,hs9⟩:∃ s9:De.Rd,s9={ s' with e:=3 }:=⟨_,rfl⟩
    have hL9:LeftN (m+l.length+1) s9:=by rw[hs9];exact⟨hL'.top,hL'.all,hL'.lev,(by decide:(3:Nat)<=28)⟩
    have he9:s9.e=3:=by rw[hs9]
    have hlv:De.leave s9=s9:=zEq (by rw[he9];decide);have HA:=hid (fun F' W (h:RowF W0 w1 F F' b s9 l.length (cellsP l) (.slice ra l.length rc) W)=>h.asks HW.out hL9 (by omega) 2 0 0 0);rw[zBL,hlv]at HA;have HEr:=hid (fun F' W (h:RowF W0 w1 F F' b s' l.length (cellsP l) (.slice ra l.length rc) W)=>(⟨_,h.call HW.out (h.rd.err 3).1 (by rw[hs9];exact(h.rd.err 3).2)⟩:∃ F2,RowF W0 w1 F F2 b s9 l.length (cellsP l) (.slice ra l.length rc) (W.setCell ⟨b,1,none⟩ (.int .i64 3))));have HCe:=hid (fun F' W (h:RowF W0 w1 F F' b s9 l.length (cellsP l) (.slice ra l.length rc) W)=>(by have:=h.cell.1;rw[he9]at this;exact this:W.cell? ⟨b,1,none⟩=some (.int .i64 3)));have hgX:X=(s9,Na.none9):=by
     have h1:=HGr.out;rw[<-hrow,hl8,Nat.sub_self,zEU hm,<-hs9]at h1;rw[h1]
     show Na.getEnd (De.leave s9) l=_
     rw[hlv];unfold Na.getEnd;rw[if_pos (by rw[he9];decide)]
    have HgX:=hid hgX;have hgeq:(8:Int)<=(l.length:Int):=by omega
    obtain⟨c1,c2,c3⟩:=(hR.still (zAa _ _)).cell;obtain⟨n,hn⟩:∃ n,n=l.length:=⟨_,rfl⟩
    have HMo2:Hid (∀ w4,wr.grownBy w4 none->w4.cell? ⟨b,1,none⟩=some (.int .i64 (s'.e:Nat))/\w4.frozen? ⟨b,1,none⟩=false/\b<w4.heap.size):=hid (fun w4 hg=>(R.out.still hg).cell);rw[<-hn]at R HA HEr HCe hgeq ⊢;clear hR hJ hl1 hL' hrow hm hlt hs9 hL9 he9 hlv hl8 hgX hn hrop c1 c2 c3;go_wp2_with (first
     |(go_at_call 84;(with_reducible refine HMo.out.mono ?_);rintro e w4 ⟨rfl,hg4⟩;have R4:=hid (R.out.still hg4);obtain⟨c1,c2,c3⟩:=HMo2.out _ hg4;clear hg4)
     |(go_at_call 35;obtain⟨F5,h5⟩:=HEr.out _ _ R4.out;(with_reducible refine(HA.out _ _ h5).mono ?_);rintro e w8 ⟨d0,d1,d2,d3,rfl,F8,h8⟩;have R8:=hid h8;clear h8 h5 c1 c2 c3;have c8:=HCe.out _ _ R8.out;have HBr:=hid ((R8.out.kept (zAi HB1.out) HNf.out).trans HB1.out);have y0:=zAh HBr.out 0;have y1:=zAh HBr.out 1;have y2:=zAh HBr.out 2;have z0:=cell_blk HBr.out 0 rfl;have z1:=cell_blk HBr.out 1 rfl;have z2:=cell_blk HBr.out 2 rfl))
    refine bodyPost_ret (v:=.agg #[.int .i64 0,.string ⟨#[]⟩,.string ⟨#[]⟩]) ?_ rfl ⟨by rw[HgX.out];rfl,by rw[HgX.out];exact R8.out.boxed HX.out.own HX.out.base HG1.out (Nat.le_refl _) (by rw[HS1.out];exact Nat.lt_succ_self _) zFG⟩;exact results_cell_row results38 _ _ w.heap.size _ _ (0,0) _ rfl (set3 HBr.out) underlying23 rfl hI
  ·have hmf:De.more s'=false:=by cases hmm:De.more s' with
    |false=>rfl
    |true=>exact absurd hmm hm
   rw[hmf]at HMo;have HA:=hid (fun F' W (h:RowF W0 w1 F F' b s' l.length (cellsP l) (.slice ra l.length rc) W)=>h.asks HW.out hL' (by omega) 2 0 0 0);rw[zBL]at HA;obtain⟨s2,hs2⟩:∃ s2,s2=De.leave s':=⟨_,rfl⟩
   have hXe:X=Na.getEnd s2 l:=by
    have h1:=HGr.out;rw[<-hrow,rowG_stop hm]at h1;rw[h1,hs2]
   rw[<-hs2]at HA;have HCe:=hid (fun F' W (h:RowF W0 w1 F F' b s2 l.length (cellsP l) (.slice ra l.length rc) W)=>h.cell);have hsm:∀ p∈l,p.2.size<=900:=HSm.out l s' hrow
   have HOf:=hid (fun W (hP:Prts W (.slice ra l.length rc) l)=>zHo _ l W hP (by omega) hsm);have HPr:=hid (fun F' W (h:RowF W0 w1 F F' b s2 l.length (cellsP l) (.slice ra l.length rc) W)=>(Prts.own h.row rfl:Prts W (.slice ra l.length rc) l));obtain⟨E,hE⟩:∃ E,E=s2.e:=⟨_,rfl⟩
   rw[<-hE]at HCe;obtain⟨n,hn⟩:∃ n,n=l.length:=⟨_,rfl⟩
   rw[<-hn]at R HA HCe HOf HPr ⊢;by_cases he:E=0
   ·by_cases hq:IsS l
    ·have HgX:Hid (X=(s2,Na.s0 l)):=hid (by
      rw[hXe];unfold Na.getEnd;rw[if_neg (by rw[<-hE,he];decide),if_pos (show Na.right (Na.s0 l)=true/\Na.parts (Na.s0 l)=l from hq)])
     have HOk:Hid (∀ W,Prts W (.slice ra n rc) l->Calls prog 85 #[.slice ra n rc] W fun e w'=>e=.returned (.tuple #[Na.val (Na.s0 l),.bool true])/\W.grownBy w' none):=hid (fun W hP=>(HOf.out W hP).mono (fun e w' ⟨h1,h2⟩=>⟨zMc h1 hq,h2⟩));have hv:Na.val (Na.s0 l)=.agg #[.int .i64 (Na.s0 l).k,.string (Na.s0 l).sp,.string (Na.s0 l).nm]:=rfl;rw[hv]at HOk;have HgV:Hid (Na.val X.2=.agg #[.int .i64 (Na.s0 l).k,.string (Na.s0 l).sp,.string (Na.s0 l).nm]):=hid (by rw[HgX.out];rfl);obtain⟨k,hk⟩:∃ k,k=(Na.s0 l).k:=⟨_,rfl⟩
     obtain⟨sp,hsp⟩:∃ sp,sp=(Na.s0 l).sp:=⟨_,rfl⟩
     obtain⟨nm,hnm⟩:∃ nm,nm=(Na.s0 l).nm:=⟨_,rfl⟩
     rw[<-hk,<-hsp,<-hnm]at HOk HgV;have HC0:Hid (∀ F' W,RowF W0 w1 F F' b s2 n (cellsP l) (.slice ra n rc) W->W.cell? ⟨b,1,none⟩=some (.int .i64 0)):=hid (fun F' W h=>by
      have:=(HCe.out F' W h).1;rw[he]at this;exact this)
     clear hR hJ hl1 hL' hrow hm hmf hs2 hXe hsm HOf HCe hE hn he hq hv hk hsp hnm hrop;go_wp2_with (first
      |(go_at_call 84;(with_reducible refine HMo.out.mono ?_);rintro e w4 ⟨rfl,hg4⟩;have R4:=hid (R.out.still hg4);clear hg4)
      |(go_at_call 35;(with_reducible refine(HA.out _ _ R4.out).mono ?_);rintro e w8 ⟨d0,d1,d2,d3,rfl,F8,h8⟩;have R8:=hid h8;clear h8;have c8:=HC0.out _ _ R8.out)
      |(go_at_call 85;(with_reducible refine(HOk.out _ (HPr.out _ _ R8.out)).mono ?_);rintro e w9 ⟨rfl,hg9⟩;have R9:=hid (R8.out.still hg9);have HBr:=hid (zAt (o:=.cells #[.int .i64 k,.string sp,.string nm] 23) ((R9.out.kept (zAi HB1.out) HNf.out).trans HB1.out));clear hg9)
      |(refine wpList_load_row (by rfl) 23 (.tmp 6) (by rfl) w9.heap.size (by rfl) 23 #[.int .i64 k,.string sp,.string nm] (0,0) _ (alloc_at w9 _) underlying23 rfl hI ?_;have y0:=zAh HBr.out 0;have y1:=zAh HBr.out 1;have y2:=zAh HBr.out 2;have z0:=cell_blk HBr.out 0 rfl;have z1:=cell_blk HBr.out 1 rfl;have z2:=cell_blk HBr.out 2 rfl))
     refine bodyPost_ret (v:=.agg #[.int .i64 k,.string sp,.string nm]) ?_ rfl ⟨by rw[HgV.out],by rw[HgX.out];exact(R9.out.still (World.grownBy_alloc _ _ _)).boxed HX.out.own HX.out.base HG1.out (Nat.le_refl _) (by rw[HS1.out];exact Nat.lt_succ_self _) zFG⟩;exact results_cell_row results38 _ _ w.heap.size _ _ (0,0) _ rfl (set3 HBr.out) underlying23 rfl hI
    ·obtain⟨s9,hs9⟩:∃ s9:De.Rd,s9={ s2 with e:=9 }:=⟨_,rfl⟩
     have HgX:Hid (X=(s9,Na.none9)):=hid (by
      rw[hXe,hs9];unfold Na.getEnd;rw[if_neg (by rw[<-hE,he];decide),if_neg (show ¬(Na.right (Na.s0 l)=true/\Na.parts (Na.s0 l)=l)from hq)])
     have HOk:Hid (∀ W,Prts W (.slice ra n rc) l->Calls prog 85 #[.slice ra n rc] W fun e w'=>e=.returned (.tuple #[Na.val ⟨0,Na.e0,Na.e0⟩,.bool false])/\W.grownBy w' none):=hid (fun W hP=>(HOf.out W hP).mono (fun e w' ⟨h1,h2⟩=>⟨zMK h1 hq,h2⟩));have hv:Na.val ⟨0,Na.e0,Na.e0⟩=.agg #[.int .i64 0,.string ⟨#[]⟩,.string ⟨#[]⟩]:=rfl;rw[hv]at HOk;have HC0:Hid (∀ F' W,RowF W0 w1 F F' b s2 n (cellsP l) (.slice ra n rc) W->W.cell? ⟨b,1,none⟩=some (.int .i64 0)):=hid (fun F' W h=>by
      have:=(HCe.out F' W h).1;rw[he]at this;exact this)
     have HC1:=hid (fun F' W (h:RowF W0 w1 F F' b s2 n (cellsP l) (.slice ra n rc) W)=>h.cell.2);have HEr:=hid (fun F' W (h:RowF W0 w1 F F' b s2 n (cellsP l) (.slice ra n rc) W)=>(⟨⟨_,h.call HW.out (h.rd.err 9).1 (by rw[hs9];exact(h.rd.err 9).2)⟩,fun k hk hf=>(h.rd.err 9).1.block k hk hf⟩:(∃ F2,RowF W0 w1 F F2 b s9 n (cellsP l) (.slice ra n rc) (W.setCell ⟨b,1,none⟩ (.int .i64 9)))/\∀ k,k<W.heap.size->¬ F' k->(W.setCell ⟨b,1,none⟩ (.int .i64 9)).heap[k]?=W.heap[k]?));clear hR hJ hl1 hL' hrow hm hmf hs2 hs9 hXe hsm HOf HCe hE hn he hq hv hrop;go_wp2_with (first
      |(go_at_call 84;(with_reducible refine HMo.out.mono ?_);rintro e w4 ⟨rfl,hg4⟩;have R4:=hid (R.out.still hg4);clear hg4)
      |(go_at_call 35;(with_reducible refine(HA.out _ _ R4.out).mono ?_);rintro e w8 ⟨d0,d1,d2,d3,rfl,F8,h8⟩;have R8:=hid h8;clear h8;have c8:=HC0.out _ _ R8.out)
      |(go_at_call 85;(with_reducible refine(HOk.out _ (HPr.out _ _ R8.out)).mono ?_);rintro e w9 ⟨rfl,hg9⟩;have R9:=hid (R8.out.still hg9);have R10:=hid (R9.out.still (World.grownBy_alloc w9 (.cells #[.int .i64 0,.string ⟨#[]⟩,.string ⟨#[]⟩] 23) none));obtain⟨q1,q2⟩:=HC1.out _ _ R10.out;have q0:=HC0.out _ _ R10.out;obtain⟨⟨F11,h11⟩,k11⟩:=HEr.out _ _ R10.out;have R11:=hid h11;have HB11:=hid ((k11 w9.heap.size (zAi (alloc_at w9 (.cells #[.int .i64 0,.string ⟨#[]⟩,.string ⟨#[]⟩] 23))) (fun hf=>Nat.lt_irrefl _ (R9.out.rd.own _ hf).2)).trans (alloc_at w9 (.cells #[.int .i64 0,.string ⟨#[]⟩,.string ⟨#[]⟩] 23)));have HBr:=hid ((R11.out.kept (zAi HB1.out) HNf.out).trans HB1.out);clear hg9 h11 k11)
      |(refine wpList_load_row (by rfl) 23 (.tmp 6) (by rfl) w9.heap.size (by rfl) 23 #[.int .i64 0,.string ⟨#[]⟩,.string ⟨#[]⟩] (0,0) _ HB11.out underlying23 rfl hI ?_;have y0:=zAh HBr.out 0;have y1:=zAh HBr.out 1;have y2:=zAh HBr.out 2;have z0:=cell_blk HBr.out 0 rfl;have z1:=cell_blk HBr.out 1 rfl;have z2:=cell_blk HBr.out 2 rfl))
     refine bodyPost_ret (v:=.agg #[.int .i64 0,.string ⟨#[]⟩,.string ⟨#[]⟩]) ?_ rfl ⟨by rw[HgX.out];rfl,by rw[HgX.out];exact R11.out.boxed HX.out.own HX.out.base HG1.out (Nat.le_refl _) (by rw[HS1.out];exact Nat.lt_succ_self _) zFG⟩;exact results_cell_row results38 _ _ w.heap.size _ _ (0,0) _ rfl (set3 HBr.out) underlying23 rfl hI
   ·have HgX:Hid (X=(s2,Na.none9)):=hid (by
     rw[hXe];unfold Na.getEnd;rw[if_pos (by rw[<-hE];exact he)])
    have hne:¬((E:Nat):Int)=0:=by omega
    clear hR hJ hl1 hL' hrow hm hmf hs2 hXe hsm HOf HPr hE hn he hrop;go_wp2_with (first
     |(go_at_call 84;(with_reducible refine HMo.out.mono ?_);rintro e w4 ⟨rfl,hg4⟩;have R4:=hid (R.out.still hg4);clear hg4)
     |(go_at_call 35;(with_reducible refine(HA.out _ _ R4.out).mono ?_);rintro e w8 ⟨d0,d1,d2,d3,rfl,F8,h8⟩;have R8:=hid h8;clear h8;obtain⟨c8,-,-⟩:=HCe.out _ _ R8.out;have HBr:=hid ((R8.out.kept (zAi HB1.out) HNf.out).trans HB1.out);have y0:=zAh HBr.out 0;have y1:=zAh HBr.out 1;have y2:=zAh HBr.out 2;have z0:=cell_blk HBr.out 0 rfl;have z1:=cell_blk HBr.out 1 rfl;have z2:=cell_blk HBr.out 2 rfl))
    refine bodyPost_ret (v:=.agg #[.int .i64 0,.string ⟨#[]⟩,.string ⟨#[]⟩]) ?_ rfl ⟨by rw[HgX.out];rfl,by rw[HgX.out];exact R8.out.boxed HX.out.own HX.out.base HG1.out (Nat.le_refl _) (by rw[HS1.out];exact Nat.lt_succ_self _) zFG⟩;exact results_cell_row results38 _ _ w.heap.size _ _ (0,0) _ rfl (set3 HBr.out) underlying23 rfl hI
structure RunD (W0 w:World) (F F':Nat->Prop) (b:Nat) (s':De.St) (wr:World):Prop where
 upto:Upto F w wr
 wrt:RefW W0 F' b s' wr
 sub:∀ k,F' k->Ext F w wr k
section
variable {W0 w w2 wr:World} {F F' F2:Nat->Prop} {b:Nat} {s s' s2:De.St}
theorem RunD.start (h:RefW W0 F b s w):RunD W0 w F F b s w:=⟨Upto.refl F w,h,fun k hk=>.inl hk⟩
theorem RunD.still (h:RunD W0 w F F' b s' wr) (hg:wr.grownBy w2 none):RunD W0 w F F' b s' w2 :=
 ⟨h.upto.trans (Upto.of_grown F hg) (fun _ _ h=>h),h.wrt.still hg,fun k hk=>by
  have:=hg.size;rcases h.sub k hk with h1|h1
  ·exact .inl h1
  ·exact .inr ⟨h1.1,by omega⟩⟩
theorem RunD.call (hw:∀ k,F k->k<w.heap.size) (h:RunD W0 w F F' b s' wr) (hu:Upto F' wr w2) (hr:RefW W0 (Ext F' wr w2) b s2 w2):RunD W0 w F (Ext F' wr w2) b s2 w2:=by
 have h1:=h.upto.size;have h2:=hu.size;refine⟨h.upto.trans hu (fun k hk hf=>?_),hr,fun k hk=>?_⟩
 ·rcases h.sub k hf with hf|hf
  ·exact hf
  ·omega
 ·rcases hk with hk|hk
  ·rcases h.sub k hk with h3|h3
   ·exact .inl h3
   ·exact .inr ⟨h3.1,by omega⟩
  ·exact .inr ⟨by omega,hk.2⟩
theorem RunD.comp (h:RunD W0 w F F' b s wr) (h2:RunD W0 wr F' F2 b s' w2):RunD W0 w F F2 b s' w2:=by
 have h3:=h.upto.size;have h4:=h2.upto.size;refine⟨h.upto.trans h2.upto (fun k hk hf=>?_),h2.wrt,fun k hk=>?_⟩
 ·rcases h.sub k hf with hf|hf
  ·exact hf
  ·omega
 ·rcases h2.sub k hk with hk|hk
  ·rcases h.sub k hk with h5|h5
   ·exact .inl h5
   ·exact .inr ⟨h5.1,by omega⟩
  ·exact .inr ⟨by omega,hk.2⟩
theorem RunD.kept {k:Nat} (h:RunD W0 w F F' b s' wr) (hk:k<w.heap.size) (hf:¬ F k):wr.heap[k]?=w.heap[k]?:=h.upto.block k hk hf
theorem RunD.cell (h:RunD W0 w F F' b s' wr):wr.cell? ⟨b,2,none⟩=some (.int .i64 (s'.e:Nat)):=by
 obtain⟨tv,rv,h3,_⟩:=h.wrt.body;exact cell_blk h3 2 rfl
theorem RunD.did {m:Nat} (hw:∀ k,F k->k<w.heap.size) (h:RunD W0 w F F' b s' wr) (hl:Lim m s') (hm:m<=2000) (x:De.Val) (k n:Int) (S:ByteArray) (hk:x.kind=k) (hn:x.n=n) (hi:x.is=false) (hb:x.b=[]) (ht:x.t=strL S) (hS:S.size<=2000) :
  Calls prog 25 #[.pointer (some ⟨b,0,none⟩),.agg #[.int .i64 k,.int .i64 n,.bool false,.slice none 0 0,.string S]] wr fun e w'=>e=.returned (.tuple #[])/\∃ F2,RunD W0 w F F2 b (De.step s' x) w':=by
 have hv:ValV wr (.agg #[.int .i64 k,.int .i64 n,.bool false,.slice none 0 0,.string S]) x :=
  ⟨.slice none 0 0,S,by rw[hk,hn,hi],by rw[hb];exact⟨by simp,none,0,0,0,rfl,Nat.le_refl _,fun h=>absurd h (Nat.lt_irrefl _),fun j hj=>absurd hj (Nat.not_lt_zero _)⟩,fun _ _ e=>by cases e;exact⟨rfl,rfl⟩,ht.symm,hS⟩
 exact(zCs h.wrt hl hm _ x hv (by rw[hb];simp)).mono (fun e w' hp=>⟨hp.1,_,h.call hw hp.2.1 hp.2.2⟩)
end
def stP (s:De.St) (l:List Na.Pr) (j:Nat):De.St:=(l.take j).foldl Na.putPart (De.step s Na.vOpen)
theorem zDc (s:De.St) (l:List Na.Pr):stP s l 0=De.step s Na.vOpen:=by unfold stP;simp
theorem stP_succ {s:De.St} {l:List Na.Pr} {j:Nat} (h:j<l.length):stP s l (j+1)=Na.putPart (stP s l j) (l.getD j (Na.e0,Na.e0)):=by
 unfold stP;rw[List.take_succ_eq_append_getElem h,List.foldl_append,List.getD_eq_getElem?_getD,List.getElem?_eq_getElem h];rfl
theorem zIk {m:Nat} {s:De.St} (l:List Na.Pr) (hl:Lim m s):∀ (j:Nat),j<=l.length->Lim (m+1+4*j) (stP s l j)
 |0,_=>by rw[zDc];exact hl.step
 |j+1,h=>by
  rw[stP_succ (by omega)];exact((zIk l hl j (by omega)).step.step.step.step).mono (by omega)
theorem zIQ {l:List Na.Pr} (h:∀ p∈l,Na.GoodP p) {j:Nat} (hj:j<l.length):(l.getD j (Na.e0,Na.e0)).1.size<=2000/\(l.getD j (Na.e0,Na.e0)).2.size<=2000:=by
 have hg:Na.GoodP (l.getD j (Na.e0,Na.e0)):=by
  rw[List.getD_eq_getElem?_getD,List.getElem?_eq_getElem hj];exact h _ (List.getElem_mem _)
 have h1:=hg.len;have h2:=(Na.txt_len hg.txt).1;rw[zAx]at h1 h2;exact⟨by omega,by omega⟩
theorem zF6 {s:De.St} (h:s.e≠0) (p:Na.Pr):Na.putPart s p=s:=by unfold Na.putPart;rw[zBm h,zBm h,zBm h,zBm h]
theorem zFn {s:De.St} (h:s.e≠0):∀ (l:List Na.Pr),l.foldl Na.putPart s=s
 |[]=>rfl
 |p :: r=>by rw[List.foldl_cons,zF6 h];exact zFn h r
theorem zGN {s:De.St} (h:s.e≠0) (x:Na.Sb):Na.putS s x=s:=by
 unfold Na.putS Na.putRow De.fail;rw[zBm h,zFn h,zBm h,if_neg h];split <;> rfl
theorem RunD.lift {W0 w0 w wr:World} {F F':Nat->Prop} {b:Nat} {s':De.St} (hF:∀ k,F k->W0.heap.size<=k/\k<w0.heap.size) (hb:W0.grownBy w0 none) (hg:w0.grownBy w none) (h:RunD W0 w F F' b s' wr):Upto F w0 wr/\RefW W0 (Ext F w0 wr) b s' wr:=by
 have h1:=hg.size;have h2:=h.upto.size;refine⟨(Upto.of_grown F hg).trans h.upto (fun _ _ h=>h),h.wrt.wide (fun k hk=>?_) (zAo hb hF (by omega))⟩;rcases h.sub k hk with h3|h3
 ·exact .inl h3
 ·exact .inr ⟨by omega,h3.2⟩
theorem zFU {W0 w:World} {F:Nat->Prop} {b m:Nat} {s:De.St} (x:Na.Sb) (h:RefW W0 F b s w) (he:s.e=0) (hl:Lim m s) (hm:m<=900) (hr:Na.right x=true) (hk:i64 x.k) (h1:x.sp.size<=1000000) (h2:x.nm.size<=1000000) :
  Calls prog 28 #[.pointer (some ⟨b,0,none⟩),Na.val x] w fun e w'=>e=.returned (.tuple #[])/\Upto F w w'/\RefW W0 (Ext F w w') b (Na.putRow s (Na.parts x)) w':=by
 have hI:(prog.info? 23).map (·.size)=some 3:=by kernel_rfl
 have hIP:(prog.info? 88).map (·.size)=some 2:=by kernel_rfl
 have hv:Na.val x=.agg #[.int .i64 x.k,.string x.sp,.string x.nm]:=rfl;have HRt:=hid (fun W=>zBP x hk h1 h2 W);have HPa:=hid (fun W=>zCr x hr W);have hgood:=Na.parts_good hr;have h3:=Na.parts_le3 x;rw[hr]at HRt;rw[hv]at HRt HPa ⊢;obtain⟨k,hk'⟩:∃ k,k=x.k:=⟨_,rfl⟩
 obtain⟨sp,hsp⟩:∃ sp,sp=x.sp:=⟨_,rfl⟩
 obtain⟨nm,hnm⟩:∃ nm,nm=x.nm:=⟨_,rfl⟩
 obtain⟨l,hpl⟩:∃ l,l=Na.parts x:=⟨_,rfl⟩
 rw[<-hk',<-hsp,<-hnm]at HRt HPa ⊢;rw[<-hpl]at HPa hgood h3 ⊢;obtain⟨w1,hw1⟩:∃ w1,w1=w.alloc (.cells #[.int .i64 k,.string sp,.string nm] 23):=⟨_,rfl⟩
 have hg1:w.grownBy w1 none:=by rw[hw1];exact World.grownBy_alloc _ _ _
 have hb1:w1.heap[w.heap.size]?=some (.cells #[.int .i64 k,.string sp,.string nm] 23 (0,0)):=by rw[hw1];exact alloc_at _ _
 have HW1:=hid hw1;have HX:=hid h;have HG1:=hid hg1;have HB1:=hid hb1;have HNf:Hid (¬ F w.heap.size):=hid (fun hf=>Nat.lt_irrefl _ (h.own _ hf).2);have HWk:=hid (fun k (hk:F k)=>(Nat.lt_of_lt_of_le (h.own k hk).2 hg1.size:k<w1.heap.size));have R1:=hid (RunD.start (h.still hg1));have hc1:w1.cell? ⟨b,2,none⟩=some (.int .i64 0):=by
  have:=R1.out.cell;rw[he]at this;exact this
 have HC1:=hid (fun W (hW:w1.grownBy W none)=>(by have:=(R1.out.still hW).cell;rw[he]at this;exact this:W.cell? ⟨b,2,none⟩=some (.int .i64 0)));have HO:=hid (fun W (hW:w1.grownBy W none)=>RunD.did HWk.out (R1.out.still hW) hl (by omega) Na.vOpen 1 48 ⟨#[]⟩ rfl rfl rfl rfl rfl (by decide));have HLm:=hid (fun j (hj:j<=l.length)=>zIk l hl j hj);have HSt:Hid (stP s l 0=De.step s Na.vOpen):=hid (zDc s l);have HSu:=hid (fun j (hj:j<l.length)=>(stP_succ hj:stP s l (j+1)=_));have HSz:=hid (fun j (hj:j<l.length)=>zIQ hgood hj);have HEnd:Hid (Na.putRow s l=De.step (stP s l l.length) Na.vClose):=hid (by unfold Na.putRow stP;rw[List.take_length]);rw[<-HSt.out]at HO;rw[hw1]at hc1;obtain⟨T,hT⟩:∃ T,T=stP s l:=⟨_,rfl⟩
 rw[HEnd.out];clear HEnd HSt;rw[<-hT]at HO HLm HSu ⊢;clear h he hl hr hk h1 h2 hv hgood hk' hsp hnm hpl hw1 hg1 hb1 hT;go_enter func28,ntmps28
 go_wp2_with (first
  |(rw[<-HW1.out];refine wpList_load_row (by rfl) 23 (.tmp 3) (by rfl) w.heap.size (by rfl) 23 #[.int .i64 k,.string sp,.string nm] (0,0) _ HB1.out underlying23 rfl hI ?_)
  |(go_at_call 12;(try rw[<-HW1.out]);(with_reducible refine(HRt.out _).mono ?_);rintro e w2 ⟨rfl,hg2⟩;have G2:=hid hg2;have c2:=HC1.out _ hg2;clear hg2)
  |(go_at_call 25;(with_reducible refine(HO.out _ G2.out).mono ?_);rintro e w3 ⟨rfl,F3,h3'⟩;have R3:=hid h3';have HB3:=hid ((h3'.kept (zAi HB1.out) HNf.out).trans HB1.out);clear h3' c2)
  |(refine wpList_load_row (by rfl) 23 (.tmp 3) (by rfl) w.heap.size (by rfl) 23 #[.int .i64 k,.string sp,.string nm] (0,0) _ HB3.out underlying23 rfl hI ?_)
  |(go_at_call 18;(with_reducible refine(HPa.out _).mono ?_);rintro e w4 ⟨v4,rfl,hg4,ho4⟩;have HOwn:=hid ho4;have HPr:=hid (Prts.own ho4 rfl);obtain⟨pa,pg,pc,rfl,-⟩:=zAp ho4;have R4:=hid (RunD.start (R3.out.wrt.still hg4));have R34:=hid (R3.out.still hg4);have HF3:=hid R3.out.wrt.own;have HG4:=hid hg4.size;clear ho4 hg4))
 obtain⟨n,hn⟩:∃ n,n=l.length:=⟨_,rfl⟩
 have HNn:=hid hn;rw[<-hn]at h3 HLm HSu HSz HPr HOwn ⊢;clear hn;go_loopw [30] (fun i wr=>∃ (j:Nat) (F':Nat->Prop),j<=n/\i=.int .i64 j/\RunD W0 w4 F3 F' b (T j) wr) (fun i _=>n-(intOf i).toNat)
 case atStart=>exact⟨0,F3,Nat.zero_le _,rfl,R4.out⟩
 case round =>
  obtain⟨j,F',hj,rfl,hR⟩:=hrel;have R:=hid hR;by_cases hjn:j<n
  ·obtain⟨_,sb,so,_,hv,ha,hcs⟩:=HPr.out;rw[<-HNn.out]at hv ha hcs;simp only[Value.slice.injEq]at hv;obtain⟨rfl,_,rfl⟩:=hv;obtain⟨rfl,hsb⟩:=ha (by omega);have hblk:wr.heap[sb]?=w4.heap[sb]?:=hR.kept hsb (fun hf=>by
    have h5:=(HOwn.out.lt sb rfl).1;have h6:=(HF3.out sb hf).2;omega)
   have c0:=(World.cell?_of_block hblk).trans (hcs j hjn).1;have c1:=(World.cell?_of_block hblk).trans (hcs j hjn).2;have hsz:=HSz.out j hjn;have hsu:=HSu.out j hjn;have hlm:=HLm.out j (by omega);obtain⟨p1,hp1⟩:∃ p1,p1=(l.getD j (Na.e0,Na.e0)).1:=⟨_,rfl⟩
   obtain⟨p2,hp2⟩:∃ p2,p2=(l.getD j (Na.e0,Na.e0)).2:=⟨_,rfl⟩
   rw[<-hp1]at c0 hsz;rw[<-hp2]at c1 hsz;obtain⟨w5,hw5⟩:∃ w5,w5=wr.alloc (.cells #[.string p1,.string p2] 88):=⟨_,rfl⟩
   have hg5:wr.grownBy w5 none:=by rw[hw5];exact World.grownBy_alloc _ _ _
   have hb5:w5.heap[wr.heap.size]?=some (.cells #[.string p1,.string p2] 88 (0,0)):=by rw[hw5];exact alloc_at _ _
   have HW5:=hid hw5;have HB5:=hid hb5;have HN5:Hid (¬ F' wr.heap.size):=hid (fun hf=>Nat.lt_irrefl _ (hR.wrt.own _ hf).2);have hk5:∀ k,F' k->k<w5.heap.size:=fun k hk=>Nat.lt_of_lt_of_le (hR.wrt.own k hk).2 hg5.size
   have R5:=hid (R.out.still hg5);have hR5:=RunD.start (R5.out.wrt);have HD1:=hid (RunD.did hk5 hR5 hlm (by omega) Na.vOpen 1 48 ⟨#[]⟩ rfl rfl rfl rfl rfl (by decide));have HD2:=hid (fun F W (h:RunD W0 w5 F' F b (De.step (T j) Na.vOpen) W)=>RunD.did hk5 h hlm.step (by omega) (Na.vOid p1) 8 0 p1 rfl rfl rfl rfl rfl hsz.1);have HD3:=hid (fun F W (h:RunD W0 w5 F' F b (De.step (De.step (T j) Na.vOpen) (Na.vOid p1)) W)=>RunD.did hk5 h hlm.step.step (by omega) (Na.vTxt p2) 7 64 p2 rfl rfl rfl rfl rfl hsz.2);have HD4:=hid (fun F W (h:RunD W0 w5 F' F b (De.step (De.step (De.step (T j) Na.vOpen) (Na.vOid p1)) (Na.vTxt p2)) W)=>RunD.did hk5 h hlm.step.step.step (by omega) Na.vClose 2 0 ⟨#[]⟩ rfl rfl rfl rfl rfl (by decide));have hst:De.step (De.step (De.step (De.step (T j) Na.vOpen) (Na.vOid p1)) (Na.vTxt p2)) Na.vClose=T (j+1):=by rw[hsu,hp1,hp2];rfl
   rw[hst]at HD4;generalize De.step (De.step (De.step (T j) Na.vOpen) (Na.vOid p1)) (Na.vTxt p2)=t3 at *;generalize De.step (De.step (T j) Na.vOpen) (Na.vOid p1)=t2 at *;generalize De.step (T j) Na.vOpen=t1 at *;clear hR ha hcs hblk hsz hsu hlm hp1 hp2 hw5 hg5 hb5 hk5 hR5 hst hsb;go_wp2_with (first
    |(go_at_call 25;(try rw[<-HW5.out]);(with_reducible refine HD1.out.mono ?_);rintro e w6 ⟨rfl,F6,h6⟩;have R6:=hid h6;have b6:=(h6.kept (zAi HB5.out) HN5.out).trans HB5.out;have d0:=cell_blk b6 0 rfl;clear h6 b6)
    |(go_at_call 25;(with_reducible refine(HD2.out _ _ R6.out).mono ?_);rintro e w7 ⟨rfl,F7,h7⟩;have R7:=hid h7;have b7:=(h7.kept (zAi HB5.out) HN5.out).trans HB5.out;have d1:=cell_blk b7 1 rfl;clear h7 b7)
    |(go_at_call 25;(with_reducible refine(HD3.out _ _ R7.out).mono ?_);rintro e w8 ⟨rfl,F8,h8⟩;have R8:=hid h8;clear h8)
    |(go_at_call 25;(with_reducible refine(HD4.out _ _ R8.out).mono ?_);rintro e w9 ⟨rfl,F9,h9⟩;have R9:=hid h9;clear h9))
   go_roundw
   case rel=>exact⟨j+1,F9,by omega,by go_num,R5.out.comp R9.out⟩
   case measure=>simp[intOf];omega
  ·obtain rfl:j=n:=by omega
   have HD:=hid (RunD.did (fun k hk=>Nat.lt_of_lt_of_le (HF3.out k hk).2 HG4.out) hR (HLm.out j (Nat.le_refl _)) (by omega) Na.vClose 2 0 ⟨#[]⟩ rfl rfl rfl rfl rfl (by decide));clear hR;go_wp2_with (go_at_call 25;(with_reducible refine HD.out.mono ?_);rintro e w9 ⟨rfl,F9,h9⟩;have R9:=hid h9;clear h9)
   go_returns
   rw[<-HNn.out];exact⟨rfl,(R34.out.comp R9.out).lift HX.out.own HX.out.base HG1.out⟩
theorem zFW {W0 w:World} {F:Nat->Prop} {b:Nat} {s:De.St} (x:Na.Sb) (h:RefW W0 F b s w) (he:s.e=0) (hr:Na.right x=false) (hk:i64 x.k) (h1:x.sp.size<=1000000) (h2:x.nm.size<=1000000) :
  Calls prog 28 #[.pointer (some ⟨b,0,none⟩),Na.val x] w fun e w'=>e=.returned (.tuple #[])/\Upto F w w'/\RefW W0 (Ext F w w') b { s with e:=9 } w':=by
 have hI:(prog.info? 23).map (·.size)=some 3:=by kernel_rfl
 have hv:Na.val x=.agg #[.int .i64 x.k,.string x.sp,.string x.nm]:=rfl;have HRt:=hid (fun W=>zBP x hk h1 h2 W);rw[hr]at HRt;rw[hv]at HRt ⊢;generalize x.k=k at *;generalize x.sp=sp at *;generalize x.nm=nm at *;obtain⟨w1,hw1⟩:∃ w1,w1=w.alloc (.cells #[.int .i64 k,.string sp,.string nm] 23):=⟨_,rfl⟩
 have hg1:w.grownBy w1 none:=by rw[hw1];exact World.grownBy_alloc _ _ _
 have hb1:w1.heap[w.heap.size]?=some (.cells #[.int .i64 k,.string sp,.string nm] 23 (0,0)):=by rw[hw1];exact alloc_at _ _
 obtain⟨tv,rv,hc,-⟩:=h.body;rw[he]at hc;have hbl:=zAi hc;have HBd:=hid (fun W (hW:w.grownBy W none)=>((hW.block b hbl (by simp)).trans hc:W.heap[b]?=some (.cells #[tv,rv,.int .i64 ((0:Nat):Int)] 59 (0,0))));have HW1:=hid hw1;have HB1:=hid hb1;have HX:=hid h;have HG1:=hid hg1;have c1:w1.cell? ⟨b,2,none⟩=some (.int .i64 0):=cell_blk (HBd.out w1 hg1) 2 rfl;rw[hw1]at c1;clear h he hr hk h1 h2 hv hw1 hg1 hb1 hc hbl;go_enter func28,ntmps28
 go_wp2_with (first
  |(rw[<-HW1.out];refine wpList_load_row (by rfl) 23 (.tmp 3) (by rfl) w.heap.size (by rfl) 23 #[.int .i64 k,.string sp,.string nm] (0,0) _ HB1.out underlying23 rfl hI ?_)
  |(go_at_call 12;(try rw[<-HW1.out]);(with_reducible refine(HRt.out _).mono ?_);rintro e w2 ⟨rfl,hg2⟩;have G2:=hid (zAb HG1.out hg2);have c2:w2.cell? ⟨b,2,none⟩=some (.int .i64 0):=cell_blk (HBd.out w2 G2.out) 2 rfl;have f2:=zAh (HBd.out w2 G2.out) 2;clear hg2))
 go_returns
 exact⟨rfl,RefW.after G2.out ((HX.out.grow G2.out).err 9 (by decide))⟩
theorem zFV {W0 w:World} {F:Nat->Prop} {b:Nat} {s:De.St} (x:Na.Sb) (h:RefW W0 F b s w) (he:s.e≠0) :
  Calls prog 28 #[.pointer (some ⟨b,0,none⟩),Na.val x] w fun e w'=>e=.returned (.tuple #[])/\Upto F w w'/\RefW W0 (Ext F w w') b s w':=by
 have hv:Na.val x=.agg #[.int .i64 x.k,.string x.sp,.string x.nm]:=rfl;rw[hv];generalize x.k=k at *;generalize x.sp=sp at *;generalize x.nm=nm at *;obtain⟨w1,hw1⟩:∃ w1,w1=w.alloc (.cells #[.int .i64 k,.string sp,.string nm] 23):=⟨_,rfl⟩
 have hg1:w.grownBy w1 none:=by rw[hw1];exact World.grownBy_alloc _ _ _
 obtain⟨tv,rv,hc,-⟩:=h.body;have hz:((s.e:Nat):Int)≠0:=by omega
 have hb2:=(hg1.block b (zAi hc) (by simp)).trans hc;have c1:w1.cell? ⟨b,2,none⟩=some (.int .i64 (s.e:Nat)):=cell_blk hb2 2 rfl;have HX:=hid h;have HG1:=hid hg1;have HW1:=hid hw1;rw[hw1]at c1;clear h hw1 hg1 hc hb2 he hv;go_enter func28,ntmps28
 go_wp2
 go_returns
 rw[<-HW1.out];exact⟨rfl,Upto.of_grown F HG1.out,HX.out.grow HG1.out⟩
theorem zFX {W0 w:World} {F:Nat->Prop} {b m:Nat} {s:De.St} (x:Na.Sb) (h:RefW W0 F b s w) (hl:Lim m s) (hm:m<=900) (hk:i64 x.k) (h1:x.sp.size<=1000000) (h2:x.nm.size<=1000000) :
  Calls prog 28 #[.pointer (some ⟨b,0,none⟩),Na.val x] w fun e w'=>e=.returned (.tuple #[])/\Upto F w w'/\RefW W0 (Ext F w w') b (Na.putS s x) w':=by
 by_cases he:s.e=0
 ·cases hr:Na.right x with
  |true =>
   have e1:Na.putS s x=Na.putRow s (Na.parts x):=by unfold Na.putS;rw[if_pos hr]
   rw[e1];exact zFU x h he hl hm hr hk h1 h2
  |false =>
   have e1:Na.putS s x={ s with e:=9 }:=by
    unfold Na.putS De.fail;rw[if_neg (by rw[hr];decide),if_pos he]
   rw[e1];exact zFW x h he hr hk h1 h2
 ·rw[zGN he];exact zFV x h he
theorem RdN.up {A:Nat->Addr} {w w':World} (h:RdN A w) (hg:w.grownBy w' none):RdN A w' :=
 ⟨h.errs.grown hg,fun v s m W h1 h2 h3=>h.text v s m W h1 h2 (zAb hg h3),fun v b W h1=>h.oid v b W (zAb hg h1)⟩
end Go.Proofs.YtijkaknggdaajaaGreatDoor
