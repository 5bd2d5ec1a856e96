import Derived.Test.YtijkaknggdaajaaGreatDoorZw19
import Derived.Test.YtijkaknggdaajaaGreatDoorZw20
import Derived.Test.YtijkaknggdaajaaGreatDoorZw22
set_option linter.unusedVariables false
set_option linter.unusedSimpArgs false
set_option maxRecDepth 100000
set_option maxHeartbeats 4000000
namespace Go.Proofs.YtijkaknggdaajaaGreatDoor
open Go.Proofs.Tryz
open Lib (hid)
open Go.RowKit
structure NxO (W0:World) (F:Nat->Prop) (b:Nat) (s:De.Rd) (tag:Int) (w w':World) (e:Ending):Prop where
 upto:Upto F w w'
 rd:RefR W0 (Ext F w w') b (De.next s tag).1 w'
 ans:match (De.next s tag).2 with
  |none=>e=.returned (.tuple #[.slice none 0 0,.slice none 0 0,.bool false])
  |some (x,y)=>∃ (a a':Option Addr) (c c':Nat),e=.returned (.tuple #[.slice a x.length c,.slice a' y.length c',.bool true])/\Sup (ImR W0 (Ext F w w') b) w' (fun W=>(Bytes W (.slice a x.length c) x/\Whole0 (.slice a x.length c))/\Bytes W (.slice a' y.length c') y/\Whole0 (.slice a' y.length c'))
def zJM (W0:World) (b:Nat):Prop:=∀ (F:Nat->Prop) (s:De.Rd) (w:World) (tag:Int),RefR W0 F b s w->s.left.length<=2000->s.top.length<=1000000 ->
 Calls prog 76 #[.pointer (some ⟨b,0,none⟩),.int .i64 tag] w fun e w'=>NxO W0 F b s tag w w' e
structure DoO (W0:World) (F:Nat->Prop) (b:Nat) (r:De.Rd×De.Val) (w w':World) (e:Ending):Prop where
 upto:Upto F w w'
 rd:RefR W0 (Ext F w w') b r.1 w'
 ans:∃ (a:Option Addr) (c:Nat) (S:ByteArray),e=.returned (.agg #[.int .i64 0,.int .i64 r.2.n,.bool r.2.is,.slice a r.2.b.length c,.string S])/\strL S=r.2.t/\Sup (ImR W0 (Ext F w w') b) w' (fun W=>Bytes W (.slice a r.2.b.length c) r.2.b/\Whole0 (.slice a r.2.b.length c))
def do_W (w:World) (k tag least most:Int):World:=((w.alloc (.cells #[.int .i64 k,.int .i64 tag,.int .i64 least,.int .i64 most] 76)).alloc (.cells #[.int .i64 0,.int .i64 0,.bool false,.slice none 0 0,.string ⟨#[]⟩] 63)).alloc (.cells #[.int .i64 0,.int .i64 0,.bool false,.slice none 0 0,.string ⟨#[]⟩] 63)
theorem zAK (w:World) (k tag least most:Int):w.grownBy (do_W w k tag least most) none:=zAc (zAc (World.grownBy_alloc _ _ _) _) _
theorem zBk (w:World) (k tag least most:Int):(do_W w k tag least most).heap.size=w.heap.size+3:=by
 unfold do_W;rw[zAe,zBd]
theorem zC5 (w:World) (k tag least most:Int):(do_W w k tag least most).heap[w.heap.size]?=some (.cells #[.int .i64 k,.int .i64 tag,.int .i64 least,.int .i64 most] 76 (0,0)):=zAt (zBM _ _ _)
theorem zC4 (w:World) (k tag least most:Int):(do_W w k tag least most).heap[w.heap.size+1]?=some (.cells #[.int .i64 0,.int .i64 0,.bool false,.slice none 0 0,.string ⟨#[]⟩] 63 (0,0)):=zAt (zBN _ _ _)
theorem zC3 (w:World) (k tag least most:Int):(do_W w k tag least most).heap[w.heap.size+2]?=some (.cells #[.int .i64 0,.int .i64 0,.bool false,.slice none 0 0,.string ⟨#[]⟩] 63 (0,0)):=by
 have:=alloc_at ((w.alloc (.cells #[.int .i64 k,.int .i64 tag,.int .i64 least,.int .i64 most] 76)).alloc (.cells #[.int .i64 0,.int .i64 0,.bool false,.slice none 0 0,.string ⟨#[]⟩] 63)) (.cells #[.int .i64 0,.int .i64 0,.bool false,.slice none 0 0,.string ⟨#[]⟩] 63);rwa [zBd]at this
theorem zBJ {G:Nat->Prop} {W:World} (hG:∀ k,G k->k<W.heap.size):Sup G W (fun X=>Bytes X (.slice none 0 0) []/\Whole0 (.slice none 0 0)) :=
 ⟨fun j hj=>hG j hj,fun W' _=>⟨⟨by simp,none,0,0,0,rfl,Nat.le_refl _,fun h=>absurd h (by simp),fun j hj=>absurd hj (by simp)⟩,fun n c e=>by cases e;exact⟨rfl,rfl⟩⟩⟩
theorem RefR.imLt {W0 w:World} {F:Nat->Prop} {b:Nat} {s:De.Rd} (h:RefR W0 F b s w):∀ k,ImR W0 F b k->k<w.heap.size:=fun k hk=>by
 rcases hk.1 with hk|hk
 ·exact(h.own k hk).2
 ·exact Nat.lt_of_lt_of_le hk h.base.size
theorem zFs (w:World) (g:Nat) (cs:Array Value):w.grownBy (w.setRow g cs) (some g):=⟨rfl,rfl,rfl,by simp,fun k hk hne=>setRow_other _ _ _ _ (fun e=>hne (by rw[e]))⟩
theorem DoO.fin {W0 w W2 w3 w4:World} {F:Nat->Prop} {b:Nat} {s:De.Rd} {r:De.Rd×De.Val} {D:Array Value} {a:Option Addr} {c:Nat} {S:ByteArray} {k tag least most:Int} (h:RefR W0 F b s w) (hW:W2=do_W w k tag least most)
  (hu:Upto F W2 w3) (hr:RefR W0 (Ext F W2 w3) b r.1 w3) (h4:w4=w3.setRow (w.heap.size+1) D) (hS:strL S=r.2.t)
  (ha:Sup (ImR W0 (Ext F W2 w3) b) w3 (fun W=>Bytes W (.slice a r.2.b.length c) r.2.b/\Whole0 (.slice a r.2.b.length c))) :
  DoO W0 F b r w w4 (.returned (.agg #[.int .i64 0,.int .i64 r.2.n,.bool r.2.is,.slice a r.2.b.length c,.string S])):=by
 have hga:w.grownBy W2 none:=by rw[hW];exact zAK _ _ _ _ _
 have hs2:W2.heap.size=w.heap.size+3:=by rw[hW,zBk]
 have hsz:w4.heap.size=w3.heap.size:=by rw[h4];simp
 have hq:=hu.size;have hub:Upto (fun j=>j=w.heap.size+1) w3 w4:=by
  rw[h4];exact Upto.of_row (row:=some (w.heap.size+1)) (zFs _ _ _) (fun j hj=>.inl (Option.some.inj hj).symm)
 have hne:∀ j,Ext F W2 w3 j->j≠w.heap.size+1:=fun j hf e=>by
  rcases hf with hf|hf
  ·have:=(h.own j hf).2;omega
  ·omega
 have hap:Apart (fun j=>j=w.heap.size+1) (Ext F W2 w3):=fun j hj hf=>hne j hf hj
 have hW0:=h.base.size;have hr2:=hr.other (G:=fun j=>j=w.heap.size+1) (G':=fun j=>j=w.heap.size+1) (fun j hj=>by omega) ⟨hub,fun _ _ h=>h⟩ hap;have hwide:∀ j,Ext F W2 w3 j->Ext F w w4 j:=fun j hj=>by
  rcases hj with hj|hj
  ·exact .inl hj
  ·exact .inr ⟨by omega,by omega⟩
 have hown:=zAo h.base h.own (w':=w4) (by omega);have hr3:=hr2.wide hwide hown;refine⟨((Upto.of_grown F hga).trans hu (fun _ _ h=>h)).trans hub (fun j hj hf=>by omega),hr3,a,c,S,rfl,hS,?_⟩;exact(ha.upto hub (fun j hj e=>by
  rcases hj.1 with hf|hf
  ·exact hne j hf e
  ·omega)).mono (fun j hj=>⟨hj.1.imp (hwide j) id,hj.2⟩) hr3.imLt
theorem DoO.nothing {W0 w w':World} {F:Nat->Prop} {b:Nat} {s:De.Rd} (h:RefR W0 F b s w) (hg:w.grownBy w' none):DoO W0 F b (s,De.none0) w w' (.returned (.agg #[.int .i64 0,.int .i64 0,.bool false,.slice none 0 0,.string ⟨#[]⟩])):=by
 have hr:=(h.still hg).wide (G:=Ext F w w') (fun j hj=>.inl hj) (zAo h.base h.own hg.size);exact⟨Upto.of_grown F hg,hr,none,0,⟨#[]⟩,rfl,rfl,zBJ hr.imLt⟩
theorem zGM {W0 w:World} {F:Nat->Prop} {b:Nat} {s:De.Rd} (h:RefR W0 F b s w) (k tag least most:Int) (he:s.e≠0) :
  Calls prog 35 #[.pointer (some ⟨b,0,none⟩),.agg #[.int .i64 k,.int .i64 tag,.int .i64 least,.int .i64 most]] w fun e w'=>DoO W0 F b (De.ask s k tag least most) w w' e:=by
 have hr:De.ask s k tag least most=(s,De.none0):=by unfold De.ask;rw[if_pos he]
 rw[hr];obtain⟨W2,hW2⟩:∃ W2,W2=do_W w k tag least most:=⟨_,rfl⟩
 have hga:w.grownBy W2 none:=by rw[hW2];exact zAK _ _ _ _ _
 have b0:=zC5 w k tag least most;rw[<-hW2]at b0;have b1:=zC4 w k tag least most;rw[<-hW2]at b1;have b2:=zC3 w k tag least most;rw[<-hW2]at b2;have h2:=h.still hga;obtain⟨sb,so,lc,ya,yc,hc,_⟩:=h2.at_top;have c1:=cell_blk hc 1 rfl;have hz:(((s.e:Nat):Int))≠0:=by omega
 have HX:=hid h;have HX2:=hid h2;have HW2:=hid hW2;have HB1:=hid b1;have HB2:=hid b2;have HI5:Hid ((prog.info? 63).map (·.size)=some 5):=hid (by kernel_rfl);rw[hW2]at c1;unfold do_W at c1;clear h he hr hga b0 b1 b2 h2 hc hW2;go_enter func35,ntmps35
 go_wp2
 have hW:=HW2.out;unfold do_W at hW;rw[<-hW];refine bodyPost_ret (v:=.agg #[.int .i64 0,.int .i64 0,.bool false,.slice none 0 0,.string ⟨#[]⟩]) ?_ rfl (DoO.nothing HX.out (by rw[HW2.out];exact zAK _ _ _ _ _));exact results_cell_row results35 _ _ (w.heap.size+1) _ _ (0,0) _ rfl HB1.out underlying63 rfl HI5.out
theorem zHK {s s2:De.Rd} {tag:Int} {x y:List Nat} (h:De.next s tag=(s2,some (x,y))):x.length<=s.top.length:=by
 unfold De.next at h;split at h
 ·cases h
 ·split at h
  ·cases h
  ·split at h
   ·cases h
   ·simp only[Prod.mk.injEq,Option.some.injEq]at h;obtain⟨_,rfl,_⟩:=h;rw[List.length_take,List.length_drop];omega
theorem zGs {l:List Nat} {k:Nat} (h:Pt.mask l=.error k):k≠0:=by
 unfold Pt.mask at h
 (repeat' split at h) <;> first|(cases h;decide)|cases h
theorem zJ2 {k least most:Int} {l:List Nat} {e:Nat} (h:De.said k least most l=.error e):e≠0:=by
 unfold De.said at h;split at h
 ·cases hw:Wh.get l with
  |error j=>rw[hw]at h;cases h;exact zGA hw
  |ok n =>
   rw[hw]at h;simp only at h;split at h
   ·cases h;decide
   ·cases h
 split at h
 ·(repeat' split at h) <;> first|(cases h;decide)|cases h
 split at h
 ·(repeat' split at h) <;> first|(cases h;decide)|cases h
 split at h
 ·split at h
  ·cases h
  ·cases h;assumption
 split at h
 ·cases hw:Od.get l with
  |error j=>rw[hw]at h;cases h;exact zEl hw
  |ok n=>rw[hw]at h;cases h
 split at h
 ·cases hw:Cal.get l with
  |error j=>rw[hw]at h;cases h;exact zEz hw
  |ok n=>rw[hw]at h;cases h
 ·cases hw:Pt.mask l with
  |error j=>rw[hw]at h;cases h;exact zGs hw
  |ok n=>rw[hw]at h;cases h
section
variable {W0 w W2 W3 w5 w6 w8 w9:World} {F:Nat->Prop} {b:Nat} {s s2:De.Rd} {k tag least most:Int}
theorem zEx (hg3:W2.grownBy W3 none) (hu:Upto F W3 w5) (hF:∀ j,F j->W0.heap.size<=j/\j<W2.heap.size) (hr:RefR W0 (Ext F W3 w5) b s2 w5) (hb:W0.grownBy W2 none):Upto F W2 w5/\RefR W0 (Ext F W2 w5) b s2 w5:=by
 have h1:=hg3.size;have h2:=hu.size;refine⟨(Upto.of_grown F hg3).trans hu (fun _ _ h=>h),hr.wide (fun j hj=>?_) (zAo hb hF (by omega))⟩;rcases hj with hj|hj
 ·exact .inl hj
 ·exact .inr ⟨by omega,hj.2⟩
theorem RefR.up9 (hr:RefR W0 (Ext F W3 w5) b s2 w5) (hu:Upto F W3 w5) (hg5:w5.grownBy w8 none) (e:Nat):Upto F W3 (w8.setCell ⟨b,1,none⟩ (.int .i64 (e:Nat))) :=
 (hu.trans (Upto.of_grown F hg5) (fun _ _ h=>h)).trans ((hr.still hg5).err e).1 (fun j hj hf=>by
  rcases hf with hf|hf
  ·exact hf
  ·omega)
theorem DoO.none3 (h:RefR W0 F b s w) (hW:W2=do_W w k tag least most) (hg3:W2.grownBy W3 none) (hu:Upto F W3 w5) (hr:RefR W0 (Ext F W3 w5) b s2 w5)
  (h4:w6=w5.setRow (w.heap.size+1) #[.int .i64 0,.int .i64 0,.bool false,.slice none 0 0,.string ⟨#[]⟩]) :
  DoO W0 F b (s2,De.none0) w w6 (.returned (.agg #[.int .i64 0,.int .i64 0,.bool false,.slice none 0 0,.string ⟨#[]⟩])):=by
 have hga:w.grownBy W2 none:=by rw[hW];exact zAK _ _ _ _ _
 have hF:∀ j,F j->W0.heap.size<=j/\j<W2.heap.size:=fun j hj=>⟨(h.own j hj).1,Nat.lt_of_lt_of_le (h.own j hj).2 hga.size⟩
 obtain⟨m1,m2⟩:=zEx hg3 hu hF hr (zAb h.base hga);exact DoO.fin (r:=(s2,De.none0)) (S:=⟨#[]⟩) (a:=none) (c:=0) h hW m1 m2 h4 rfl (zBJ m2.imLt)
theorem DoO.err3 (h:RefR W0 F b s w) (hW:W2=do_W w k tag least most) (hg3:W2.grownBy W3 none) (hu:Upto F W3 w5) (hr:RefR W0 (Ext F W3 w5) b s2 w5) (hg5:w5.grownBy w8 none) (e:Nat) (h9:w9=w8.setCell ⟨b,1,none⟩ (.int .i64 (e:Nat)))
  (h4:w6=w9.setRow (w.heap.size+1) #[.int .i64 0,.int .i64 0,.bool false,.slice none 0 0,.string ⟨#[]⟩]) :
  DoO W0 F b ({ s2 with e:=e },De.none0) w w6 (.returned (.agg #[.int .i64 0,.int .i64 0,.bool false,.slice none 0 0,.string ⟨#[]⟩])):=by
 have hga:w.grownBy W2 none:=by rw[hW];exact zAK _ _ _ _ _
 have hF:∀ j,F j->W0.heap.size<=j/\j<W2.heap.size:=fun j hj=>⟨(h.own j hj).1,Nat.lt_of_lt_of_le (h.own j hj).2 hga.size⟩
 obtain⟨m1,m2⟩:=zEx hg3 hu hF hr (zAb h.base hga);obtain⟨q1,q2⟩:=(m2.still hg5).err e;rw[<-h9]at q1 q2;have hs1:=m1.size;have hs5:=hg5.size;have hs9:=q1.size;have hu9:Upto F W2 w9:=(m1.trans (Upto.of_grown F hg5) (fun _ _ h=>h)).trans q1 (fun j hj hf=>by
  rcases hf with hf|hf
  ·exact hf
  ·omega)
 have hr9:RefR W0 (Ext F W2 w9) b { s2 with e:=e } w9:=q2.wide (fun j hj=>by
  rcases hj with hj|hj
  ·rcases hj with hj|hj
   ·exact .inl hj
   ·exact .inr ⟨hj.1,by omega⟩
  ·exact .inr ⟨by omega,hj.2⟩) (zAo (zAb h.base hga) hF (by omega))
 exact DoO.fin (r:=({ s2 with e:=e },De.none0)) (S:=⟨#[]⟩) (a:=none) (c:=0) h hW hu9 hr9 h4 rfl (zBJ hr9.imLt)
theorem DoO.some3 (h:RefR W0 F b s w) (hW:W2=do_W w k tag least most) (hg3:W2.grownBy W3 none) (hu:Upto F W3 w5) (hr:RefR W0 (Ext F W3 w5) b s2 w5) (hg5:w5.grownBy w8 none) {x:List Nat} {v:De.Val} {n:Int} {q:Bool} {a a2:Option Addr} {l c c2:Nat} {S:ByteArray}
  (ha:Sup (ImR W0 (Ext F W3 w5) b) w5 (fun W=>Bytes W (.slice a2 x.length c2) x/\Whole0 (.slice a2 x.length c2)))
  (hv:v.kind=0/\v.n=n/\v.is=q/\v.t=strL S/\((v.b=[]/\Value.slice a l c=.slice none 0 0)∨(v.b=x/\Value.slice a l c=.slice a2 x.length c2)))
  (h4:w6=w8.setRow (w.heap.size+1) #[.int .i64 0,.int .i64 n,.bool q,.slice a l c,.string S]) :
  DoO W0 F b (s2,v) w w6 (.returned (.agg #[.int .i64 0,.int .i64 n,.bool q,.slice a l c,.string S])):=by
 have hga:w.grownBy W2 none:=by rw[hW];exact zAK _ _ _ _ _
 have hF:∀ j,F j->W0.heap.size<=j/\j<W2.heap.size:=fun j hj=>⟨(h.own j hj).1,Nat.lt_of_lt_of_le (h.own j hj).2 hga.size⟩
 obtain⟨m1,m2⟩:=zEx hg3 hu hF hr (zAb h.base hga);have hs1:=m1.size;have hs3:=hg3.size;have hs5:=hg5.size;have hu8:Upto F W2 w8:=m1.trans (Upto.of_grown F hg5) (fun _ _ h=>h);have hr8:RefR W0 (Ext F W2 w8) b s2 w8:=(m2.still hg5).wide (fun j hj=>by
  rcases hj with hj|hj
  ·exact .inl hj
  ·exact .inr ⟨hj.1,by omega⟩) (zAo (zAb h.base hga) hF (by omega))
 obtain⟨_,rfl,rfl,ht,hb⟩:=hv;rcases hb with⟨hb,hs⟩|⟨hb,hs⟩
 ·cases hs
  have:=DoO.fin (r:=(s2,v)) (S:=S) (a:=none) (c:=0) h hW hu8 hr8 h4 ht.symm (by rw[show((s2,v):De.Rd×De.Val).2.b=[]from hb];exact zBJ hr8.imLt);rw[show((s2,v):De.Rd×De.Val).2.b=[]from hb]at this;exact this
 ·cases hs
  have:=DoO.fin (r:=(s2,v)) (S:=S) (a:=a) (c:=c) h hW hu8 hr8 h4 ht.symm (by
   rw[show((s2,v):De.Rd×De.Val).2.b=x from hb];exact(ha.grown hg5).mono (fun j hj=>⟨hj.1.imp (fun hf=>by
    rcases hf with hf|hf
    ·exact .inl hf
    ·exact .inr ⟨by omega,by omega⟩) id,hj.2⟩) hr8.imLt)
  rw[show((s2,v):De.Rd×De.Val).2.b=x from hb]at this;exact this
end
theorem zJ8 {W0 w:World} {F:Nat->Prop} {b:Nat} {s:De.Rd} (HNx:zJM W0 b) (h:RefR W0 F b s w) (k:Int) (j:Nat) (T:Int) (hj:j<7) (hkj:k=(j:Int)+3) (htg:De.tagOf k=T) (hTj:(#[.int .i64 2,.int .i64 10,.int .i64 1,.int .i64 4,.int .i64 12,.int .i64 6,.int .i64 24]:Array Value)[j]?=some (.int .i64 T)) (tag least most:Int) (he:s.e=0) (hs:s.left.length<=2000) (hl:s.top.length<=2000) (hSaid:∀ (x:List Nat),x.length<=2000->∀ (v:Value) (W:World),Bytes W v x->Calls prog 77 #[.agg #[.int .i64 k,.int .i64 tag,.int .i64 least,.int .i64 most],v] W fun e w'=>zH4 v x (De.said k least most x) W w' e) :
  Calls prog 35 #[.pointer (some ⟨b,0,none⟩),.agg #[.int .i64 k,.int .i64 tag,.int .i64 least,.int .i64 most]] w fun e w'=>DoO W0 F b (De.ask s k tag least most) w w' e:=by
 have hr:De.ask s k tag least most=(match De.next s T with
  |(s2,none)=>(s2,De.none0)
  |(s2,some (b,_))=>match De.said k least most b with
   |.error e=>({ s2 with e:=e },De.none0)
   |.ok v=>(s2,v)):=by
  unfold De.ask;rw[if_neg (by omega),if_neg (by omega),if_neg (by omega),if_neg (by omega),htg];rfl
 obtain⟨W2,hW2⟩:∃ W2,W2=do_W w k tag least most:=⟨_,rfl⟩
 have hga:w.grownBy W2 none:=by rw[hW2];exact zAK _ _ _ _ _
 have hs2:W2.heap.size=w.heap.size+3:=by rw[hW2];exact zBk _ _ _ _ _
 have b0:=zC5 w k tag least most;rw[<-hW2]at b0;have b1:=zC4 w k tag least most;rw[<-hW2]at b1;have b2:=zC3 w k tag least most;rw[<-hW2]at b2;have h2:=h.still hga;obtain⟨sb,so,lc,ya,yc,hc,_⟩:=h2.at_top;have c1:=cell_blk hc 1 rfl;rw[he]at c1;have c0:=cell_blk b0 0 rfl;rw[hW2]at c1 c0;unfold do_W at c1 c0;obtain⟨W3,hW3⟩:∃ W3,W3=(W2.alloc (.cells #[.int .i64 2,.int .i64 10,.int .i64 1,.int .i64 4,.int .i64 12,.int .i64 6,.int .i64 24] 3)):=⟨_,rfl⟩
 have hg3:W2.grownBy W3 none:=by rw[hW3];exact World.grownBy_alloc _ _ _
 have h3:=h2.still hg3;have HBs:Hid (∀ w5,Upto F W3 w5->w5.heap[w.heap.size]?=some (.cells #[.int .i64 k,.int .i64 tag,.int .i64 least,.int .i64 most] 76 (0,0))/\w5.heap[w.heap.size+1]?=some (.cells #[.int .i64 0,.int .i64 0,.bool false,.slice none 0 0,.string ⟨#[]⟩] 63 (0,0))/\w5.heap[w.heap.size+2]?=some (.cells #[.int .i64 0,.int .i64 0,.bool false,.slice none 0 0,.string ⟨#[]⟩] 63 (0,0))):=hid (fun w5 hu=>by
  have hsz:=hg3.size;have hb:∀ j,j<W2.heap.size->w.heap.size<=j->w5.heap[j]?=W2.heap[j]?:=fun j hj hj2=>by
   rw[hu.block j (by omega) (fun hf=>by have:=(h.own j hf).2;omega),hg3.block j hj (by simp)]
  exact⟨by rw[hb _ (by omega) (by omega)];exact b0,by rw[hb _ (by omega) (by omega)];exact b1,by rw[hb _ (by omega) (by omega)];exact b2⟩)
 have e1:((k:Int)==1)=false:=beq_eq_false_iff_ne.2 (by omega);have e2:((k:Int)==2)=false:=beq_eq_false_iff_ne.2 (by omega);have e11:((k:Int)==11)=false:=beq_eq_false_iff_ne.2 (by omega);have hk3:(3:Int)<=k:=by omega
 have hk9:k<=(9:Int):=by omega
 have hsub:wrap64 (k-3)=(j:Int):=by unfold wrap64;omega
 have hj7:(j:Int)<7:=by omega
 have hj0:(0:Int)<=(j:Int):=by omega
 have hcl:W3.cell? ⟨W2.heap.size,(k-3).toNat,none⟩=some (.int .i64 T):=by rw[hW3,show(k-3).toNat=j by omega];exact cell_blk (alloc_at _ _) j hTj
 rw[hW3,hs2,hW2,show w.heap.size+3=w.heap.size+1+1+1 from rfl]at hcl;unfold do_W at hcl;have hn:=HNx F s W3 T h3 hs (by omega);have HX:=hid h;have HX3:=hid h3;have HG3:=hid hg3;have HW2:=hid hW2;have HW3:=hid hW3;have HS3:=hid hs2;have HI5:Hid ((prog.info? 63).map (·.size)=some 5):=hid (by kernel_rfl);have HI4:Hid ((prog.info? 76).map (·.size)=some 4):=hid (by kernel_rfl);have hlen:=hl;cases hnx:De.next s T with
 |mk s2 r =>
 cases r with
 |none =>
  rw[hnx]at hr;simp only at hr;rw[hr];have HN:Hid (Calls prog 76 #[.pointer (some ⟨b,0,none⟩),.int .i64 T] W3 fun e w'=>e=.returned (.tuple #[.slice none 0 0,.slice none 0 0,.bool false])/\Upto F W3 w'/\RefR W0 (Ext F W3 w') b s2 w'):=hid (hn.mono (fun e w' hh=>by
   obtain⟨q1,q2,q3⟩:=hh;rw[hnx]at q2 q3;exact⟨q3,q1,q2⟩))
  clear hn h h2 h3 hkj htg hTj hj hga b0 b1 b2 hc hW2 hW3 hg3 hs2 hr hnx;go_enter func35,ntmps35
  go_wp2_with (first
   |(go_at_call 76;have e3:=HW3.out;rw[HW2.out]at e3;unfold do_W at e3;rw[<-e3];clear e3;refine HN.out.mono ?_;rintro e w5 ⟨rfl,q1,q2⟩;have Q1:=hid q1;have Q2:=hid q2;clear q1 q2)
   |(refine wpList_load_row (by rfl) 63 (.tmp 5) (by rfl) (w.heap.size+1+1) (by rfl) _ #[.int .i64 0,.int .i64 0,.bool false,.slice none 0 0,.string ⟨#[]⟩] (0,0) _ (HBs.out _ Q1.out).2.2 underlying63 (by rfl) HI5.out ?_)
   |(refine wpList_store_row (by rfl) 63 (.tmp 4) (.tmp 145) (by rfl) (w.heap.size+1) #[.int .i64 0,.int .i64 0,.bool false,.slice none 0 0,.string ⟨#[]⟩] (by rfl) (by rfl) _ _ (HBs.out _ Q1.out).2.1 HI5.out rfl (dr_one5 _ _ _ _ _ _ _) ?_;obtain⟨w6,hw6⟩:∃ w6,w6=w5.setRow (w.heap.size+1) #[.int .i64 0,.int .i64 0,.bool false,.slice none 0 0,.string ⟨#[]⟩]:=⟨_,rfl⟩;rw[<-hw6];have HW6:=hid hw6;clear hw6))
  try simp only[Act.put,List.setIfInBounds_toArray,List.set_cons_succ,List.set_cons_zero]
  refine bodyPost_ret (v:=.agg #[.int .i64 0,.int .i64 0,.bool false,.slice none 0 0,.string ⟨#[]⟩]) ?_ rfl (DoO.none3 HX.out HW2.out HG3.out Q1.out Q2.out HW6.out);exact results_cell_row results35 _ _ (w.heap.size+1) _ _ (0,0) _ rfl (by rw[HW6.out];exact setRow_heap _ _ _ _ _ _ (HBs.out _ Q1.out).2.1) underlying63 rfl HI5.out
 |some xy =>
  obtain⟨x,y⟩:=xy;rw[hnx]at hr;simp only at hr;have hx1:x.length<=2000:=by
   have:=zHK hnx;omega
  have HN:Hid (Calls prog 76 #[.pointer (some ⟨b,0,none⟩),.int .i64 T] W3 fun e w'=>∃ a2 a3 c2 c3,e=.returned (.tuple #[.slice a2 x.length c2,.slice a3 y.length c3,.bool true])/\Upto F W3 w'/\RefR W0 (Ext F W3 w') b s2 w'/\Sup (ImR W0 (Ext F W3 w') b) w' (fun W=>Bytes W (.slice a2 x.length c2) x/\Whole0 (.slice a2 x.length c2))):=hid (hn.mono (fun e w' hh=>by
   obtain⟨q1,q2,q3⟩:=hh;rw[hnx]at q2 q3;obtain⟨a2,a3,c2,c3,q4,q5⟩:=q3;exact⟨a2,a3,c2,c3,q4,q1,q2,q5.map (fun _ h=>h.1)⟩))
  have HSd:Hid (∀ (v:Value) (W:World),Bytes W v x->Calls prog 77 #[.agg #[.int .i64 k,.int .i64 tag,.int .i64 least,.int .i64 most],v] W fun e w'=>zH4 v x (De.said k least most x) W w' e):=hid (fun v W hB=>hSaid x hx1 v W hB);clear hSaid;cases hsd:De.said k least most x with
  |error e =>
   rw[hsd]at hr HSd;simp only at hr;rw[hr];have HSd:Hid (∀ (v:Value) (W:World),Bytes W v x->Calls prog 77 #[.agg #[.int .i64 k,.int .i64 tag,.int .i64 least,.int .i64 most],v] W fun e5 w'=>W.grownBy w' none/\∃ (n:Int) (q:Bool) (a:Option Addr) (l c:Nat) (S:ByteArray),e5=.returned (.tuple #[.agg #[.int .i64 0,.int .i64 n,.bool q,.slice a l c,.string S],.int .i64 (e:Nat)])):=hid (fun v W hB=>(HSd.out v W hB).mono (fun e5 w' hh=>by
    obtain⟨h1,n,q,a,l,c,S,h2,_⟩:=hh;exact⟨h1,n,q,a,l,c,S,h2⟩))
   have he0:=zJ2 hsd;have hei:((e:Nat):Int)≠0:=by omega
   clear hn h h2 h3 hkj htg hTj hj hga b0 b1 b2 hc hW2 hW3 hg3 hs2 hr hnx hsd he0;go_enter func35,ntmps35
   go_wp2_with (first
    |(go_at_call 76;have e3:=HW3.out;rw[HW2.out]at e3;unfold do_W at e3;rw[<-e3];clear e3;refine HN.out.mono ?_;rintro e5 w5 ⟨a2,a3,c2,c3,rfl,q1,q2,q3⟩;have Q1:=hid q1;have Q2:=hid q2;have Q3:=hid q3;clear q1 q2 q3)
    |(refine wpList_load_row (by rfl) 76 (.tmp 3) (by rfl) w.heap.size (by rfl) _ #[.int .i64 k,.int .i64 tag,.int .i64 least,.int .i64 most] (0,0) _ (HBs.out _ Q1.out).1 underlying76 (by rfl) HI4.out ?_)
    |(go_at_call 77;refine(HSd.out _ _ Q3.out.now.1).mono ?_;rintro e5 w7 ⟨hg7,n,q,a,l,c,S,rfl⟩;have hg8:=zAc hg7 (.cells #[.int .i64 0,.int .i64 n,.bool q,.slice a l c,.string S] 63);obtain⟨_,_,_,_,_,hc5,_⟩:=Q2.out.at_top;have hb8:=(hg8.block _ (zAi hc5) (by simp)).trans hc5;have d1:=cell_blk hb8 1 rfl;have f1:=zAh hb8 1;have HG8:=hid hg8;clear hg7 hg8 hc5 hb8)
    |(refine wpList_load_row (by rfl) 63 (.tmp 5) (by rfl) (w.heap.size+1+1) (by rfl) _ #[.int .i64 0,.int .i64 0,.bool false,.slice none 0 0,.string ⟨#[]⟩] (0,0) _ (HBs.out _ (Q2.out.up9 Q1.out HG8.out e)).2.2 underlying63 (by rfl) HI5.out ?_)
    |(obtain⟨w9,hw9⟩:∃ w9,w9=(w7.alloc (.cells #[.int .i64 0,.int .i64 n,.bool q,.slice a l c,.string S] 63)).setCell ⟨b,1,none⟩ (.int .i64 (e:Nat)):=⟨_,rfl⟩;rw[<-hw9];have HU9:Hid (Upto F W3 w9):=hid (by rw[hw9];exact Q2.out.up9 Q1.out HG8.out e);refine wpList_store_row (by rfl) 63 (.tmp 4) (.tmp 158) (by rfl) (w.heap.size+1) #[.int .i64 0,.int .i64 0,.bool false,.slice none 0 0,.string ⟨#[]⟩] (by rfl) (by rfl) _ _ (HBs.out _ HU9.out).2.1 HI5.out rfl (dr_one5 _ _ _ _ _ _ _) ?_;obtain⟨w6,hw6⟩:∃ w6,w6=w9.setRow (w.heap.size+1) #[.int .i64 0,.int .i64 0,.bool false,.slice none 0 0,.string ⟨#[]⟩]:=⟨_,rfl⟩;rw[<-hw6];have HW6:=hid hw6;have HW9:=hid hw9;clear hw6 hw9))
   try simp only[Act.put,List.setIfInBounds_toArray,List.set_cons_succ,List.set_cons_zero]
   refine bodyPost_ret (v:=.agg #[.int .i64 0,.int .i64 0,.bool false,.slice none 0 0,.string ⟨#[]⟩]) ?_ rfl (DoO.err3 HX.out HW2.out HG3.out Q1.out Q2.out HG8.out e HW9.out HW6.out);exact results_cell_row results35 _ _ (w.heap.size+1) _ _ (0,0) _ rfl (by rw[HW6.out];exact setRow_heap _ _ _ _ _ _ (HBs.out _ HU9.out).2.1) underlying63 rfl HI5.out
  |ok v =>
   rw[hsd]at hr HSd;simp only at hr;rw[hr];have HSd:Hid (∀ (u:Value) (W:World),Bytes W u x->Calls prog 77 #[.agg #[.int .i64 k,.int .i64 tag,.int .i64 least,.int .i64 most],u] W fun e5 w'=>W.grownBy w' none/\∃ (n:Int) (q:Bool) (a:Option Addr) (l c:Nat) (S:ByteArray),e5=.returned (.tuple #[.agg #[.int .i64 0,.int .i64 n,.bool q,.slice a l c,.string S],.int .i64 0])/\(v.kind=0/\v.n=n/\v.is=q/\v.t=strL S/\((v.b=[]/\Value.slice a l c=.slice none 0 0)∨(v.b=x/\Value.slice a l c=u)))):=hid (fun u W hB=>(HSd.out u W hB).mono (fun e5 w' hh=>by
    obtain⟨h1,n,q,a,l,c,S,h2,h3⟩:=hh;exact⟨h1,n,q,a,l,c,S,h2,h3 v rfl⟩))
   clear hn h h2 h3 hkj htg hTj hj hga b0 b1 b2 hc hW2 hW3 hg3 hs2 hr hnx hsd;go_enter func35,ntmps35
   go_wp2_with (first
    |(go_at_call 76;have e3:=HW3.out;rw[HW2.out]at e3;unfold do_W at e3;rw[<-e3];clear e3;refine HN.out.mono ?_;rintro e5 w5 ⟨a2,a3,c2,c3,rfl,q1,q2,q3⟩;have Q1:=hid q1;have Q2:=hid q2;have Q3:=hid q3;clear q1 q2 q3)
    |(refine wpList_load_row (by rfl) 76 (.tmp 3) (by rfl) w.heap.size (by rfl) _ #[.int .i64 k,.int .i64 tag,.int .i64 least,.int .i64 most] (0,0) _ (HBs.out _ Q1.out).1 underlying76 (by rfl) HI4.out ?_)
    |(go_at_call 77;refine(HSd.out _ _ Q3.out.now.1).mono ?_;rintro e5 w7 ⟨hg7,n,q,a,l,c,S,rfl,hv7⟩;have HV7:=hid hv7;have HG8:=hid (zAc hg7 (.cells #[.int .i64 0,.int .i64 n,.bool q,.slice a l c,.string S] 63));clear hg7 hv7)
    |(obtain⟨w8,hw8⟩:∃ w8,w8=w7.alloc (.cells #[.int .i64 0,.int .i64 n,.bool q,.slice a l c,.string S] 63):=⟨_,rfl⟩;rw[<-hw8];rw[<-hw8]at HG8;have HU8:Hid (Upto F W3 w8):=hid (Q1.out.trans (Upto.of_grown F HG8.out) (fun _ _ h=>h));refine wpList_store_row (by rfl) 63 (.tmp 4) (.tmp 159) (by rfl) (w.heap.size+1) #[.int .i64 0,.int .i64 n,.bool q,.slice a l c,.string S] (by rfl) (by rfl) _ _ (HBs.out _ HU8.out).2.1 HI5.out rfl (dr_one5 _ _ _ _ _ _ _) ?_;obtain⟨w6,hw6⟩:∃ w6,w6=w8.setRow (w.heap.size+1) #[.int .i64 0,.int .i64 n,.bool q,.slice a l c,.string S]:=⟨_,rfl⟩;rw[<-hw6];have HW6:=hid hw6;clear hw6 hw8))
   try simp only[Act.put,List.setIfInBounds_toArray,List.set_cons_succ,List.set_cons_zero]
   refine bodyPost_ret (v:=.agg #[.int .i64 0,.int .i64 n,.bool q,.slice a l c,.string S]) ?_ rfl (DoO.some3 HX.out HW2.out HG3.out Q1.out Q2.out HG8.out Q3.out HV7.out HW6.out);exact results_cell_row results35 _ _ (w.heap.size+1) _ _ (0,0) _ rfl (by rw[HW6.out];exact setRow_heap _ _ _ _ _ _ (HBs.out _ HU8.out).2.1) underlying63 rfl HI5.out
theorem zB6 {W0:World} {b:Nat}:zJM W0 b:=by
 intro F s w tag h hs hl;cases hno:(De.next s tag).2 with
 |none =>
  refine(zIG h (by omega) hl tag hno).mono ?_;rintro e w' ⟨q1,q2,q3⟩;exact⟨q2,q3,by rw[hno];exact q1⟩
 |some xy =>
  obtain⟨x,y⟩:=xy;have he:s.e=0:=by
   unfold De.next at hno;split at hno
   ·cases hno
   ·omega
  cases hf:Tl.first s.top with
  |error k=>unfold De.next at hno;rw[if_neg (by omega),hf]at hno;cases hno
  |ok p =>
   obtain⟨t,i,n⟩:=p;have hnx:=hno;unfold De.next at hnx;rw[if_neg (by omega),hf]at hnx;simp only at hnx;by_cases ht:tag≠0/\(t:Int)≠tag
   ·rw[if_pos ht]at hnx;cases hnx
   ·have hn1:De.next s tag=({ s with top:=s.top.drop (i+n) },some ((s.top.drop i).take n,s.top.take (i+n))):=by
     unfold De.next;rw[if_neg (by omega),hf];simp only;rw[if_neg ht]
    have fin:∀ e w',(∃ u v,e=Ending.returned (.tuple #[u,v,.bool true])/\Upto F w w'/\RefR W0 (Ext F w w') b { s with top:=s.top.drop (i+n) } w' /\
      Sup (ImR W0 (Ext F w w') b) w' (fun W=>(Bytes W u ((s.top.drop i).take n)/\Whole0 u)/\Bytes W v (s.top.take (i+n))/\Whole0 v))->NxO W0 F b s tag w w' e:=by
     rintro e w' ⟨u,v,rfl,q1,q2,q3⟩;have hnow:=q3.now;obtain⟨_,a,_,_,c,rfl,_⟩:=hnow.1.1;obtain⟨_,a',_,_,c',rfl,_⟩:=hnow.2.1;refine⟨q1,by rw[hn1];exact q2,?_⟩;rw[hn1];exact⟨a,a',c,c',rfl,q3⟩
    by_cases h0:tag=0
    ·exact(zIF h hs hl tag he hf h0).mono fin
    ·exact(zHr h hs hl tag he hf (by
      rcases Decidable.em ((t:Int)=tag)with h|h
      ·exact h
      ·exact absurd ⟨h0,h⟩ ht)).mono fin
theorem RefR.pop {W0 w:World} {F:Nat->Prop} {b:Nat} {s:De.Rd} (h:RefR W0 F b s w) {l0:List Nat} {r:List (List Nat)} (hl:s.left=l0 :: r) :
  ∃ sb so lc,w.heap[b]?=some (.cells #[.slice (some ⟨sb,so,none⟩) (s.left.length+1) lc,.int .i64 (s.e:Nat)] 83 (0,0))/\s.left.length+1<=lc/\sb<w.heap.size/\(∃ ya yc,w.cell? ⟨sb,so+s.left.length,none⟩=some (.slice ya s.top.length yc)) /\
   ∀ w1,w1=w.setCell ⟨b,0,none⟩ (.slice (some ⟨sb,so,none⟩) s.left.length lc)->Upto F w w1/\RefR W0 (Ext F w w1) b { s with top:=l0,left:=r } w1:=by
 obtain⟨sb,so,lc,ya,yc,hc,hlc,hsb,hcy,_⟩:=h.at_top;refine⟨sb,so,lc,hc,hlc,hsb,⟨ya,yc,hcy⟩,fun w1 hw1=>?_⟩;obtain⟨lv,h1,ys,hy⟩:=h.body;have hlv:lv=.slice (some ⟨sb,so,none⟩) (s.left.length+1) lc:=by
  rw[hc]at h1;simp only[Option.some.injEq,Obj.cells.injEq,Array.mk.injEq,List.cons.injEq]at h1;exact h1.1.1.symm
 subst hlv;have hs:w1.heap.size=w.heap.size:=by rw[hw1];exact zAk _ _ _
 have hub:Upto (fun k=>k=b) w w1:=by rw[hw1];exact⟨rfl,rfl,rfl,by rw[zAk];exact Nat.le_refl _,fun k hk hmu=>Below.heap_setCell _ _ _ _ (fun e=>hmu e)⟩
 have hu:Upto F w w1:=hub.mono (fun k _ hk=>by rw[hk];exact h.mem);have hR:RefR W0 F b { s with top:=l0,left:=r } w1:=by
  refine⟨hu.base h.base (fun k hk=>(h.own k hk).1),fun k hk=>by rw[hs];exact h.own k hk,h.mem,.slice (some ⟨sb,so,none⟩) s.left.length lc,?_,ys.take s.left.length,(hy.upto hub (fun k hk=>hk.2)).map (fun W hW=>?_)⟩
  ·rw[hw1];have:=zAm (i:=0) hc (.slice (some ⟨sb,so,none⟩) s.left.length lc);simpa using this
  ·obtain⟨hV,hE,_⟩:=hW;have t1:=hE.take s.left.length;rw[List.take_left' (by simp)]at t1;have e:s.left.reverse=r.reverse++[l0]:=by rw[hl];simp
   rw[e]at t1;exact⟨hV.to s.left.length (by omega),t1,Whole0.some _ _ _⟩
 exact⟨hu,hR.wide (fun k hk=>.inl hk) (zAo h.base h.own hu.size)⟩
theorem zLp {W0 w:World} {F:Nat->Prop} {b:Nat} {s:De.Rd} (h:RefR W0 F b s w) (tag least most:Int) (he:s.e=0) (hs:s.left.length<=2000) (hlf:s.left=[]) :
  Calls prog 35 #[.pointer (some ⟨b,0,none⟩),.agg #[.int .i64 2,.int .i64 tag,.int .i64 least,.int .i64 most]] w fun e w'=>DoO W0 F b (De.leave s,De.none0) w w' e:=by
 have hlv:De.leave s={ s with e:=24 }:=by unfold De.leave;rw[if_neg (by omega),hlf]
 obtain⟨W2,hW2⟩:∃ W2,W2=do_W w 2 tag least most:=⟨_,rfl⟩
 have hga:w.grownBy W2 none:=by rw[hW2];exact zAK _ _ _ _ _
 have hs2:W2.heap.size=w.heap.size+3:=by rw[hW2];exact zBk _ _ _ _ _
 have hbl:=(h.own b h.mem).2;have b0:=zC5 w 2 tag least most;rw[<-hW2]at b0;have b1:=zC4 w 2 tag least most;rw[<-hW2]at b1;have b2:=zC3 w 2 tag least most;rw[<-hW2]at b2;have h2:=h.still hga;have HBk:Hid (∀ (i:Nat) (u:Value),(W2.setCell ⟨b,i,none⟩ u).heap[w.heap.size+1]?=some (.cells #[.int .i64 0,.int .i64 0,.bool false,.slice none 0 0,.string ⟨#[]⟩] 63 (0,0))/\(W2.setCell ⟨b,i,none⟩ u).heap[w.heap.size+2]?=some (.cells #[.int .i64 0,.int .i64 0,.bool false,.slice none 0 0,.string ⟨#[]⟩] 63 (0,0))):=hid (fun i u=>by
  constructor
  ·rw[Below.heap_setCell _ _ _ _ (fun e=>by have:w.heap.size+1=b:=e;omega)];exact b1
  ·rw[Below.heap_setCell _ _ _ _ (fun e=>by have:w.heap.size+2=b:=e;omega)];exact b2)
 obtain⟨sb,so,lc,ya,yc,hc,hlc,hsb,hcy,_⟩:=h2.at_top;have c1:=cell_blk hc 1 rfl;have c00:=cell_blk hc 0 rfl;have f1:=zAh hc 1;have f0:=zAh hc 0;rw[he]at c1;have c0:=cell_blk b0 0 rfl;rw[hW2]at c1 c0 c00 f1 f0 hcy;unfold do_W at c1 c0 c00 f1 f0 hcy;obtain⟨N,hN⟩:∃ N,N=s.left.length:=⟨_,rfl⟩
 rw[<-hN]at c00 hcy hlc hs;have hw1:IntKind.i64.wrap (((N+1:Nat):Int)-1)=(N:Int):=by
  simp only[IntKind.wrap,IntKind.bits,IntKind.signed];simp;omega
 have HX:=hid h;have HX2:=hid h2;have HW2:=hid hW2;have HI5:Hid ((prog.info? 63).map (·.size)=some 5):=hid (by kernel_rfl);obtain rfl:N=0:=by rw[hN,hlf];rfl
 have HL:=hid hlv;clear h h2 hga b0 b1 b2 hc hW2 hs2 hN hlv hlf he hs;go_enter func35,ntmps35
 go_wp2_with (first
  |(have e3:=HW2.out;unfold do_W at e3;rw[<-e3];clear e3;refine wpList_load_row (by rfl) 63 (.tmp 5) (by rfl) (w.heap.size+1+1) (by rfl) _ #[.int .i64 0,.int .i64 0,.bool false,.slice none 0 0,.string ⟨#[]⟩] (0,0) _ (HBk.out _ _).2 underlying63 (by rfl) HI5.out ?_;obtain⟨w9,hw9⟩:∃ w9,w9=W2.setCell ⟨b,1,none⟩ (.int .i64 24):=⟨_,rfl⟩;rw[<-hw9];have hb9:w9.heap[w.heap.size+1]?=some (.cells #[.int .i64 0,.int .i64 0,.bool false,.slice none 0 0,.string ⟨#[]⟩] 63 (0,0)):=(by rw[hw9];exact(HBk.out _ _).1);have HB9:=hid hb9;have HW9:Hid (w9=W2.setCell ⟨b,1,none⟩ (.int .i64 ((24:Nat):Int))):=hid hw9;clear hw9 hb9)
  |(refine wpList_store_row (by rfl) 63 (.tmp 4) (.tmp 111) (by rfl) (w.heap.size+1) #[.int .i64 0,.int .i64 0,.bool false,.slice none 0 0,.string ⟨#[]⟩] (by rfl) (by rfl) _ _ HB9.out HI5.out rfl (dr_one5 _ _ _ _ _ _ _) ?_;obtain⟨w6,hw6⟩:∃ w6,w6=w9.setRow (w.heap.size+1) #[.int .i64 0,.int .i64 0,.bool false,.slice none 0 0,.string ⟨#[]⟩]:=⟨_,rfl⟩;rw[<-hw6];have HW6:=hid hw6;clear hw6))
 try simp only[Act.put,List.setIfInBounds_toArray,List.set_cons_succ,List.set_cons_zero]
 refine bodyPost_ret (v:=.agg #[.int .i64 0,.int .i64 0,.bool false,.slice none 0 0,.string ⟨#[]⟩]) ?_ rfl (by rw[HL.out];exact DoO.err3 HX.out HW2.out (zAa _ _) (Upto.refl F W2) (HX2.out.wide (fun j hj=>.inl hj) (zAo HX2.out.base HX2.out.own (Nat.le_refl _))) (zAa _ _) 24 HW9.out HW6.out);exact results_cell_row results35 _ _ (w.heap.size+1) _ _ (0,0) _ rfl (by rw[HW6.out];exact setRow_heap _ _ _ _ _ _ HB9.out) underlying63 rfl HI5.out
theorem zLo {W0 w:World} {F:Nat->Prop} {b:Nat} {s:De.Rd} (h:RefR W0 F b s w) (tag least most:Int) (he:s.e=0) (hs:s.left.length<=2000) {l0:List Nat} {r:List (List Nat)} (hlf:s.left=l0 :: r) (htp:s.top≠[]) :
  Calls prog 35 #[.pointer (some ⟨b,0,none⟩),.agg #[.int .i64 2,.int .i64 tag,.int .i64 least,.int .i64 most]] w fun e w'=>DoO W0 F b (De.leave s,De.none0) w w' e:=by
 have hlv:De.leave s={ s with e:=4 }:=by unfold De.leave;rw[if_neg (by omega),hlf];simp only;rw[if_pos htp]
 obtain⟨W2,hW2⟩:∃ W2,W2=do_W w 2 tag least most:=⟨_,rfl⟩
 have hga:w.grownBy W2 none:=by rw[hW2];exact zAK _ _ _ _ _
 have hs2:W2.heap.size=w.heap.size+3:=by rw[hW2];exact zBk _ _ _ _ _
 have hbl:=(h.own b h.mem).2;have b0:=zC5 w 2 tag least most;rw[<-hW2]at b0;have b1:=zC4 w 2 tag least most;rw[<-hW2]at b1;have b2:=zC3 w 2 tag least most;rw[<-hW2]at b2;have h2:=h.still hga;have HBk:Hid (∀ (i:Nat) (u:Value),(W2.setCell ⟨b,i,none⟩ u).heap[w.heap.size+1]?=some (.cells #[.int .i64 0,.int .i64 0,.bool false,.slice none 0 0,.string ⟨#[]⟩] 63 (0,0))/\(W2.setCell ⟨b,i,none⟩ u).heap[w.heap.size+2]?=some (.cells #[.int .i64 0,.int .i64 0,.bool false,.slice none 0 0,.string ⟨#[]⟩] 63 (0,0))):=hid (fun i u=>by
  constructor
  ·rw[Below.heap_setCell _ _ _ _ (fun e=>by have:w.heap.size+1=b:=e;omega)];exact b1
  ·rw[Below.heap_setCell _ _ _ _ (fun e=>by have:w.heap.size+2=b:=e;omega)];exact b2)
 obtain⟨sb,so,lc,ya,yc,hc,hlc,hsb,hcy,_⟩:=h2.at_top;have c1:=cell_blk hc 1 rfl;have c00:=cell_blk hc 0 rfl;have f1:=zAh hc 1;have f0:=zAh hc 0;rw[he]at c1;have c0:=cell_blk b0 0 rfl;rw[hW2]at c1 c0 c00 f1 f0 hcy;unfold do_W at c1 c0 c00 f1 f0 hcy;obtain⟨N,hN⟩:∃ N,N=s.left.length:=⟨_,rfl⟩
 rw[<-hN]at c00 hcy hlc hs;have hw1:IntKind.i64.wrap (((N+1:Nat):Int)-1)=(N:Int):=by
  simp only[IntKind.wrap,IntKind.bits,IntKind.signed];simp;omega
 have HX:=hid h;have HX2:=hid h2;have HW2:=hid hW2;have HI5:Hid ((prog.info? 63).map (·.size)=some 5):=hid (by kernel_rfl);have hN0:(0:Int)<(N:Int):=by rw[hlf]at hN;simp at hN;omega
 have hNz:((N:Int)==0)=false:=by simp;omega
 have HL:=hid hlv;obtain⟨N1,hN1⟩:∃ N1,N1=N+1:=⟨_,rfl⟩
 rw[<-hN1]at c00 hw1 hlc;have hNi:(N:Int)<(N1:Int):=by omega
 have hNn:(0:Int)<=(N:Int):=by omega
 have hNlc:(N:Int)<=(lc:Int):=by omega
 have htl:(0:Int)<(s.top.length:Int):=by have:=List.length_pos_iff.2 htp;omega
 generalize s.top.length=tl at *;clear h h2 hga b0 b1 b2 hc hW2 hs2 hN hlv hlf he hs hN1 htp;go_enter func35,ntmps35
 go_wp2_with (first
  |(have e3:=HW2.out;unfold do_W at e3;rw[<-e3];clear e3;refine wpList_load_row (by rfl) 63 (.tmp 5) (by rfl) (w.heap.size+1+1) (by rfl) _ #[.int .i64 0,.int .i64 0,.bool false,.slice none 0 0,.string ⟨#[]⟩] (0,0) _ (HBk.out _ _).2 underlying63 (by rfl) HI5.out ?_;obtain⟨w9,hw9⟩:∃ w9,w9=W2.setCell ⟨b,1,none⟩ (.int .i64 4):=⟨_,rfl⟩;rw[<-hw9];have hb9:w9.heap[w.heap.size+1]?=some (.cells #[.int .i64 0,.int .i64 0,.bool false,.slice none 0 0,.string ⟨#[]⟩] 63 (0,0)):=(by rw[hw9];exact(HBk.out _ _).1);have HB9:=hid hb9;have HW9:Hid (w9=W2.setCell ⟨b,1,none⟩ (.int .i64 ((4:Nat):Int))):=hid hw9;clear hw9 hb9)
  |(refine wpList_store_row (by rfl) 63 (.tmp 4) (.tmp 111) (by rfl) (w.heap.size+1) #[.int .i64 0,.int .i64 0,.bool false,.slice none 0 0,.string ⟨#[]⟩] (by rfl) (by rfl) _ _ HB9.out HI5.out rfl (dr_one5 _ _ _ _ _ _ _) ?_;obtain⟨w6,hw6⟩:∃ w6,w6=w9.setRow (w.heap.size+1) #[.int .i64 0,.int .i64 0,.bool false,.slice none 0 0,.string ⟨#[]⟩]:=⟨_,rfl⟩;rw[<-hw6];have HW6:=hid hw6;clear hw6))
 try simp only[Act.put,List.setIfInBounds_toArray,List.set_cons_succ,List.set_cons_zero]
 refine bodyPost_ret (v:=.agg #[.int .i64 0,.int .i64 0,.bool false,.slice none 0 0,.string ⟨#[]⟩]) ?_ rfl (by rw[HL.out];exact DoO.err3 HX.out HW2.out (zAa _ _) (Upto.refl F W2) (HX2.out.wide (fun j hj=>.inl hj) (zAo HX2.out.base HX2.out.own (Nat.le_refl _))) (zAa _ _) 4 HW9.out HW6.out);exact results_cell_row results35 _ _ (w.heap.size+1) _ _ (0,0) _ rfl (by rw[HW6.out];exact setRow_heap _ _ _ _ _ _ HB9.out) underlying63 rfl HI5.out
theorem zLn {W0 w:World} {F:Nat->Prop} {b:Nat} {s:De.Rd} (h:RefR W0 F b s w) (tag least most:Int) (he:s.e=0) (hs:s.left.length<=2000) {l0:List Nat} {r:List (List Nat)} (hlf:s.left=l0 :: r) (htp:s.top=[]) :
  Calls prog 35 #[.pointer (some ⟨b,0,none⟩),.agg #[.int .i64 2,.int .i64 tag,.int .i64 least,.int .i64 most]] w fun e w'=>DoO W0 F b (De.leave s,De.none0) w w' e:=by
 have hlv:De.leave s={ s with top:=l0,left:=r }:=by unfold De.leave;rw[if_neg (by omega),hlf];simp only;rw[if_neg (by rw[htp];simp)]
 obtain⟨W2,hW2⟩:∃ W2,W2=do_W w 2 tag least most:=⟨_,rfl⟩
 have hga:w.grownBy W2 none:=by rw[hW2];exact zAK _ _ _ _ _
 have hs2:W2.heap.size=w.heap.size+3:=by rw[hW2];exact zBk _ _ _ _ _
 have hbl:=(h.own b h.mem).2;have b0:=zC5 w 2 tag least most;rw[<-hW2]at b0;have b1:=zC4 w 2 tag least most;rw[<-hW2]at b1;have b2:=zC3 w 2 tag least most;rw[<-hW2]at b2;have h2:=h.still hga;have HBk:Hid (∀ (i:Nat) (u:Value),(W2.setCell ⟨b,i,none⟩ u).heap[w.heap.size+1]?=some (.cells #[.int .i64 0,.int .i64 0,.bool false,.slice none 0 0,.string ⟨#[]⟩] 63 (0,0))/\(W2.setCell ⟨b,i,none⟩ u).heap[w.heap.size+2]?=some (.cells #[.int .i64 0,.int .i64 0,.bool false,.slice none 0 0,.string ⟨#[]⟩] 63 (0,0))):=hid (fun i u=>by
  constructor
  ·rw[Below.heap_setCell _ _ _ _ (fun e=>by have:w.heap.size+1=b:=e;omega)];exact b1
  ·rw[Below.heap_setCell _ _ _ _ (fun e=>by have:w.heap.size+2=b:=e;omega)];exact b2)
 obtain⟨sb,so,lc,hc,hlc,hsb,⟨ya,yc,hcy⟩,hpop⟩:=h2.pop hlf;have HP:=hid hpop;have c1:=cell_blk hc 1 rfl;have c00:=cell_blk hc 0 rfl;have f1:=zAh hc 1;have f0:=zAh hc 0;rw[he]at c1;have c0:=cell_blk b0 0 rfl;rw[hW2]at c1 c0 c00 f1 f0 hcy;unfold do_W at c1 c0 c00 f1 f0 hcy;obtain⟨N,hN⟩:∃ N,N=s.left.length:=⟨_,rfl⟩
 rw[<-hN]at c00 hcy hlc hs HP;have hw1:IntKind.i64.wrap (((N+1:Nat):Int)-1)=(N:Int):=by
  simp only[IntKind.wrap,IntKind.bits,IntKind.signed];simp;omega
 have HX:=hid h;have HX2:=hid h2;have HW2:=hid hW2;have HI5:Hid ((prog.info? 63).map (·.size)=some 5):=hid (by kernel_rfl);have hN0:(0:Int)<(N:Int):=by rw[hlf]at hN;simp at hN;omega
 have hNz:((N:Int)==0)=false:=by simp;omega
 have HL:=hid hlv;obtain⟨N1,hN1⟩:∃ N1,N1=N+1:=⟨_,rfl⟩
 rw[<-hN1]at c00 hw1 hlc;have hNi:(N:Int)<(N1:Int):=by omega
 have hNn:(0:Int)<=(N:Int):=by omega
 have hNlc:(N:Int)<=(lc:Int):=by omega
 have htl:¬(0:Int)<(s.top.length:Int):=by rw[htp];simp
 generalize s.top.length=tl at *;clear h h2 hga b0 b1 b2 hc hW2 hs2 hN hlv hlf he hs hN1 htp hpop;go_enter func35,ntmps35
 go_wp2_with (first
  |(have e3:=HW2.out;unfold do_W at e3;rw[<-e3];clear e3;refine wpList_load_row (by rfl) 63 (.tmp 5) (by rfl) (w.heap.size+1+1) (by rfl) _ #[.int .i64 0,.int .i64 0,.bool false,.slice none 0 0,.string ⟨#[]⟩] (0,0) _ (HBk.out _ _).2 underlying63 (by rfl) HI5.out ?_;obtain⟨w9,hw9⟩:∃ w9,w9=W2.setCell ⟨b,0,none⟩ (.slice (some ⟨sb,so,none⟩) N lc):=⟨_,rfl⟩;rw[<-hw9];have hb9:w9.heap[w.heap.size+1]?=some (.cells #[.int .i64 0,.int .i64 0,.bool false,.slice none 0 0,.string ⟨#[]⟩] 63 (0,0)):=(by rw[hw9];exact(HBk.out _ _).1);have HB9:=hid hb9;have HW9:Hid (w9=W2.setCell ⟨b,0,none⟩ (.slice (some ⟨sb,so,none⟩) N lc)):=hid hw9;clear hw9 hb9)
  |(refine wpList_store_row (by rfl) 63 (.tmp 4) (.tmp 111) (by rfl) (w.heap.size+1) #[.int .i64 0,.int .i64 0,.bool false,.slice none 0 0,.string ⟨#[]⟩] (by rfl) (by rfl) _ _ HB9.out HI5.out rfl (dr_one5 _ _ _ _ _ _ _) ?_;obtain⟨w6,hw6⟩:∃ w6,w6=w9.setRow (w.heap.size+1) #[.int .i64 0,.int .i64 0,.bool false,.slice none 0 0,.string ⟨#[]⟩]:=⟨_,rfl⟩;rw[<-hw6];have HW6:=hid hw6;clear hw6))
 try simp only[Act.put,List.setIfInBounds_toArray,List.set_cons_succ,List.set_cons_zero]
 refine bodyPost_ret (v:=.agg #[.int .i64 0,.int .i64 0,.bool false,.slice none 0 0,.string ⟨#[]⟩]) ?_ rfl (by
  obtain⟨p1,p2⟩:=HP.out w9 HW9.out;rw[HL.out];exact DoO.fin (r:=(_,De.none0)) (S:=⟨#[]⟩) (a:=none) (c:=0) HX.out HW2.out p1 p2 HW6.out rfl (zBJ p2.imLt))
 exact results_cell_row results35 _ _ (w.heap.size+1) _ _ (0,0) _ rfl (by rw[HW6.out];exact setRow_heap _ _ _ _ _ _ HB9.out) underlying63 rfl HI5.out
theorem dNil {o:Oper} {a:Act} {x:Operand} (w:World) (p:Addr) (ho:o.op=.nilCheck x) (hx:a.eval x=.pointer (some p)):(execOp a.eval o).run prog w=.ok (.value (.pointer (some p))) w:=by
 simp only[execOp,ho,hx];simp[go_sem,Sem.run_pure]
noncomputable def en_regionC:Code:=zBn Tryz.f35.body 6
theorem zDE (a:Act) (b g sb so N N1 lc tl yc:Nat) (ya:Option Addr) (tag:Int) (c1 m:Bool) (W w:World) (Q:Exit->Act->World->Prop) (hsz:a.tmps.size=160)
  (h0:a.eval (.tmp 0)=.pointer (some ⟨b,0,none⟩)) (h3:a.eval (.tmp 3)=.pointer (some ⟨g,0,none⟩))
  (hF0:∀ w,(Instr.fieldAt 83 (.pointer (some ⟨b,0,none⟩)) 0).run prog w=.ok (.pointer (some ⟨b,0,none⟩)) w)
  (hF1:∀ w,(Instr.fieldAt 76 (.pointer (some ⟨g,0,none⟩)) 1).run prog w=.ok (.pointer (some ⟨g,1,none⟩)) w)
  (hL0:∀ w,W.grownBy w none->(Instr.loadAt 81 (.pointer (some ⟨b,0,none⟩))).run prog w=.ok (.slice (some ⟨sb,so,none⟩) N1 lc) w)
  (hw1:IntKind.i64.wrap (((N1:Nat):Int)-1)=(N:Int))
  (hIx:∀ w,(Instr.indexAt 81 (.slice (some ⟨sb,so,none⟩) N1 lc) (.int .i64 (N:Nat))).run prog w=.ok (.pointer (some ⟨sb,so+N,none⟩)) w)
  (hLT:∀ w,W.grownBy w none->(Instr.loadAt 33 (.pointer (some ⟨sb,so+N,none⟩))).run prog w=.ok (.slice ya tl yc) w)
  (hc1:decide ((0:Int)<((tl:Nat):Int))=c1)
  (hLg:∀ w,W.grownBy w none->(Instr.loadAt 3 (.pointer (some ⟨g,1,none⟩))).run prog w=.ok (.int .i64 tag) w)
  (hM:∀ w,Calls prog 55 #[.int .i64 tag] w fun e w'=>e=.returned (.bool m)/\w'=w)
  (hw:W.grownBy { w with drawn:=w.drawn+1 } none)
  (hQ:∀ us w',W.grownBy w' none->Q .normal ((fill a [30,31,32,33,34,35,36,37,38,39,40,41,42,43,44,45,46,47,48] us).put (some 49) (.bool (c1&&!m))) w'):en_regionC.wp prog Q a w:=by
 have hst:zA9 [isV (.pointer (some ⟨b,0,none⟩)),isV (.pointer (some ⟨b,0,none⟩)),isV (.pointer (some ⟨b,0,none⟩)),isV (.slice (some ⟨sb,so,none⟩) N1 lc),isV (.pointer (some ⟨b,0,none⟩)),isV (.pointer (some ⟨b,0,none⟩)),isV (.pointer (some ⟨b,0,none⟩)),isV (.slice (some ⟨sb,so,none⟩) N1 lc),isV (.int .i64 (N1:Nat)),isV (.int .i64 (N:Nat)),isV (.pointer (some ⟨sb,so+N,none⟩)),isV (.slice ya tl yc),isV (.int .i64 (tl:Nat)),isV (.bool c1),isV (.bool c1),isIf (c1) true (.pointer (some ⟨g,1,none⟩)),isIf (c1) true (.int .i64 tag),isIf (c1) true (.bool m),isIf (c1) true (.bool (!m))]:=⟨zAj _,zAj _,zAj _,zAj _,zAj _,zAj _,zAj _,zAj _,zAj _,zAj _,zAj _,zAj _,zAj _,zAj _,zAj _,zDb _ _ _,zDb _ _ _,zDb _ _ _,zDb _ _ _,trivial⟩
 conv=>arg 2;whnf
 refine zAG 19 [30,31,32,33,34,35,36,37,38,39,40,41,42,43,44,45,46,47,48] (fun w'=>W.grownBy w' none) (fun w w'=>w.grownBy w' none) (flF [isV (.pointer (some ⟨b,0,none⟩)),isV (.pointer (some ⟨b,0,none⟩)),isV (.pointer (some ⟨b,0,none⟩)),isV (.slice (some ⟨sb,so,none⟩) N1 lc),isV (.pointer (some ⟨b,0,none⟩)),isV (.pointer (some ⟨b,0,none⟩)),isV (.pointer (some ⟨b,0,none⟩)),isV (.slice (some ⟨sb,so,none⟩) N1 lc),isV (.int .i64 (N1:Nat)),isV (.int .i64 (N:Nat)),isV (.pointer (some ⟨sb,so+N,none⟩)),isV (.slice ya tl yc),isV (.int .i64 (tl:Nat)),isV (.bool c1),isV (.bool c1),isIf (c1) true (.pointer (some ⟨g,1,none⟩)),isIf (c1) true (.int .i64 tag),isIf (c1) true (.bool m),isIf (c1) true (.bool (!m))]) (by kernel_rfl) (by kernel_rfl) (fun _ _ h k=>zAb k h) (fun j x w w' hg h=>zA3 hst j x w w' hg h) hw ?_ ?_
 ·refine⟨?_,?_,?_,?_,?_,?_,?_,?_,?_,?_,?_,?_,?_,?_,?_,?_,?_,?_,?_,trivial⟩
  ·exact zAg (fun us w hC hd=>zAf rfl) (fun us w hC hd=>⟨_,w,zAz rfl ((fill_old (by rfl)).trans h0),zAa _ _,rfl⟩)
  ·exact zAg (fun us w hC hd=>zAf rfl) (fun us w hC hd=>⟨_,w,dNil w _ rfl ((fill_tmp (by rfl) (by rw[hsz];decide)).trans (hd 0 (by decide))),zAa _ _,rfl⟩)
  ·exact zAg (fun us w hC hd=>zAf rfl) (fun us w hC hd=>⟨_,w,zCP rfl ((fill_tmp (by rfl) (by rw[hsz];decide)).trans (hd 1 (by decide))) (hF0 w),zAa _ _,rfl⟩)
  ·exact zAg (fun us w hC hd=>zAf rfl) (fun us w hC hd=>⟨_,w,zAQ rfl ((fill_tmp (by rfl) (by rw[hsz];decide)).trans (hd 2 (by decide))) (hL0 w hC),zAa _ _,rfl⟩)
  ·exact zAg (fun us w hC hd=>zAf rfl) (fun us w hC hd=>⟨_,w,zAz rfl ((fill_old (by rfl)).trans h0),zAa _ _,rfl⟩)
  ·exact zAg (fun us w hC hd=>zAf rfl) (fun us w hC hd=>⟨_,w,dNil w _ rfl ((fill_tmp (by rfl) (by rw[hsz];decide)).trans (hd 4 (by decide))),zAa _ _,rfl⟩)
  ·exact zAg (fun us w hC hd=>zAf rfl) (fun us w hC hd=>⟨_,w,zCP rfl ((fill_tmp (by rfl) (by rw[hsz];decide)).trans (hd 5 (by decide))) (hF0 w),zAa _ _,rfl⟩)
  ·exact zAg (fun us w hC hd=>zAf rfl) (fun us w hC hd=>⟨_,w,zAQ rfl ((fill_tmp (by rfl) (by rw[hsz];decide)).trans (hd 6 (by decide))) (hL0 w hC),zAa _ _,rfl⟩)
  ·exact zAg (fun us w hC hd=>zAf rfl) (fun us w hC hd=>⟨_,w,zJc underlying81 rfl ((fill_tmp (by rfl) (by rw[hsz];decide)).trans (hd 7 (by decide))),zAa _ _,rfl⟩)
  ·exact zAg (fun us w hC hd=>zAf rfl) (fun us w hC hd=>⟨_,w,(zDQ rfl ((fill_tmp (by rfl) (by rw[hsz];decide)).trans (hd 8 (by decide))) rfl).trans (by rw[hw1]),zAa _ _,rfl⟩)
  ·exact zAg (fun us w hC hd=>zAf rfl) (fun us w hC hd=>⟨_,w,zEt rfl ((fill_tmp (by rfl) (by rw[hsz];decide)).trans (hd 3 (by decide))) ((fill_tmp (by rfl) (by rw[hsz];decide)).trans (hd 9 (by decide))) (hIx w),zAa _ _,rfl⟩)
  ·exact zAg (fun us w hC hd=>zAf rfl) (fun us w hC hd=>⟨_,w,zAQ rfl ((fill_tmp (by rfl) (by rw[hsz];decide)).trans (hd 10 (by decide))) (hLT w hC),zAa _ _,rfl⟩)
  ·exact zAg (fun us w hC hd=>zAf rfl) (fun us w hC hd=>⟨_,w,zJc underlying33 rfl ((fill_tmp (by rfl) (by rw[hsz];decide)).trans (hd 11 (by decide))),zAa _ _,rfl⟩)
  ·exact zAg (fun us w hC hd=>zAf rfl) (fun us w hC hd=>⟨_,w,(zHU rfl ((fill_tmp (by rfl) (by rw[hsz];decide)).trans (hd 12 (by decide))) rfl).trans (by rw[hc1]),zAa _ _,rfl⟩)
  ·exact zAg (fun us w hC hd=>zAf rfl) (fun us w hC hd=>⟨_,w,zAz rfl ((fill_tmp (by rfl) (by rw[hsz];decide)).trans (hd 13 (by decide))),zAa _ _,rfl⟩)
  ·rcases Bool.eq_false_or_eq_true (c1)with hg|hg
   ·exact zAg (fun us w hC hd=>zAT (d:=44) (b:=true) rfl rfl (by rfl) (by rw[hsz];decide) ((hd 14 (by decide)).trans (by rw[hg]))) (fun us w hC hd=>⟨_,w,zCP rfl ((fill_old (by rfl)).trans h3) (hF1 w),zAa _ _,fun _=>rfl⟩)
   ·exact zCy (fun us w hC hd=>zCn (d:=44) (b:=true) rfl rfl (by rfl) (by rw[hsz];decide) ((hd 14 (by decide)).trans (by rw[hg];rfl))) (fun _=>zAa _ _) (fun _ _ h=>by rw[hg]at h;cases h)
  ·rcases Bool.eq_false_or_eq_true (c1)with hg|hg
   ·exact zAg (fun us w hC hd=>zAT (d:=44) (b:=true) rfl rfl (by rfl) (by rw[hsz];decide) ((hd 14 (by decide)).trans (by rw[hg]))) (fun us w hC hd=>⟨_,w,zAQ rfl ((fill_tmp (by rfl) (by rw[hsz];decide)).trans (hd 15 (by decide) hg)) (hLg w hC),zAa _ _,fun _=>rfl⟩)
   ·exact zCy (fun us w hC hd=>zCn (d:=44) (b:=true) rfl rfl (by rfl) (by rw[hsz];decide) ((hd 14 (by decide)).trans (by rw[hg];rfl))) (fun _=>zAa _ _) (fun _ _ h=>by rw[hg]at h;cases h)
  ·rcases Bool.eq_false_or_eq_true (c1)with hg|hg
   ·refine zA7 55 (fun us=>#[us 46]) (fun us w hC hd=>zAT (d:=44) (b:=true) rfl rfl (by rfl) (by rw[hsz];decide) ((hd 14 (by decide)).trans (by rw[hg]))) (fun us w=>by rw[zAX rfl (fun _ _=>by simp[go_sem]),List.map_toArray,List.map_cons,List.map_nil,fill_tmp (by rfl) (by rw[hsz];decide)]) (fun us w hC' hd=>?_);rw[show us 46=.int .i64 tag from hd 16 (by decide) hg];exact(hM w).mono (by rintro e w' ⟨rfl,h⟩;rw[h];exact⟨_,rfl,zAa _ _,fun _=>rfl⟩)
   ·exact zCy (fun us w hC hd=>zCn (d:=44) (b:=true) rfl rfl (by rfl) (by rw[hsz];decide) ((hd 14 (by decide)).trans (by rw[hg];rfl))) (fun _=>zAa _ _) (fun _ _ h=>by rw[hg]at h;cases h)
  ·rcases Bool.eq_false_or_eq_true (c1)with hg|hg
   ·exact zAg (fun us w hC hd=>zAT (d:=44) (b:=true) rfl rfl (by rfl) (by rw[hsz];decide) ((hd 14 (by decide)).trans (by rw[hg]))) (fun us w hC hd=>⟨_,w,zLG rfl ((fill_tmp (by rfl) (by rw[hsz];decide)).trans (hd 17 (by decide) hg)),zAa _ _,fun _=>rfl⟩)
   ·exact zCy (fun us w hC hd=>zCn (d:=44) (b:=true) rfl rfl (by rfl) (by rw[hsz];decide) ((hd 14 (by decide)).trans (by rw[hg];rfl))) (fun _=>zAa _ _) (fun _ _ h=>by rw[hg]at h;cases h)
 ·intro us w' hC' hd;rcases Bool.eq_false_or_eq_true (c1)with hg|hg
  ·exact wpList_last rfl (pick_true rfl ((fill_tmp (by rfl) (by rw[hsz];decide)).trans ((hd 14 (by decide)).trans (by rw[hg]))) ((fill_tmp (by rfl) (by rw[hsz];decide)).trans (hd 18 (by decide) hg))) (by have:=hQ us w' hC';rw[hg]at this;simpa using this)
  ·exact wpList_last rfl (pick_false rfl ((fill_tmp (by rfl) (by rw[hsz];decide)).trans ((hd 14 (by decide)).trans (by rw[hg]))) rfl) (by have:=hQ us w' hC';rw[hg]at this;exact this)
section
variable {W0 w w1 W2 w5 w6 w9:World} {F:Nat->Prop} {b:Nat} {s s3:De.Rd} {k tag least most:Int}
theorem RefR.push {lv v1 u:Value} {ys:List Value} {x:List Nat} (h:RefR W0 F b s w) (hc:w.heap[b]?=some (.cells #[lv,.int .i64 (s.e:Nat)] 83 (0,0)))
  (hy:Sup (ImR W0 F b) w (Lev lv ys (s.left.reverse++[s.top]))) (hx:Sup (ImR W0 F b) w (fun W=>Bytes W u x/\Whole0 u)) (h1:FrV w w1 v1 (ys++[u])) (h9:w9=w1.setCell ⟨b,0,none⟩ v1) :
  Upto F w w9/\RefR W0 (Ext F w w9) b { s with top:=x,left:=s.top :: s.left } w9:=by
 subst h9;have hbl:=(h.own b h.mem).2;have hs1:=h1.grown.size;have hsz:(w1.setCell ⟨b,0,none⟩ v1).heap.size=w1.heap.size:=zAk _ _ _;have hub:Upto (fun k=>k=b) w (w1.setCell ⟨b,0,none⟩ v1):=⟨h1.grown.os,h1.grown.tape,h1.grown.output,by omega,fun k hk hmu=>by
  rw[Below.heap_setCell _ _ _ _ (fun e=>hmu e)];exact h1.grown.block k hk (by simp)⟩
 have hu:Upto F w (w1.setCell ⟨b,0,none⟩ v1):=hub.mono (fun k _ hk=>by rw[hk];exact h.mem);have hown:=zAo h.base h.own hu.size;have hlt:∀ k,ImR W0 (Ext F w (w1.setCell ⟨b,0,none⟩ v1)) b k->k<(w1.setCell ⟨b,0,none⟩ v1).heap.size:=fun k hk=>by
  rcases hk.1 with hk|hk
  ·exact(hown k hk).2
  ·exact Nat.lt_of_lt_of_le hk (Nat.le_trans h.base.size hu.size)
 have o1:=zAL (b:=b) (i:=0) (u:=v1) h1.own (zG4 h1.own hbl);have s1:=zCg o1 hlt (fun k hk=>by
  rcases h1.own.2 with⟨e,_⟩|⟨g,_,_,e,e2,e3,_⟩
  ·rw[e]at hk;exact absurd hk (by simp[Value.ownBlock])
  ·rw[e]at hk;obtain rfl:g=k:=Option.some.inj hk;have:=zAi e3;exact⟨.inl (.inr ⟨e2,by omega⟩),by omega⟩)
 have s2:=(hy.upto hub (fun k hk=>hk.2)).mono (G:=ImR W0 (Ext F w (w1.setCell ⟨b,0,none⟩ v1)) b) (fun k hk=>⟨hk.1.imp (fun h=>.inl h) id,hk.2⟩) hlt;have s3:=(hx.upto hub (fun k hk=>hk.2)).mono (G:=ImR W0 (Ext F w (w1.setCell ⟨b,0,none⟩ v1)) b) (fun k hk=>⟨hk.1.imp (fun h=>.inl h) id,hk.2⟩) hlt;refine⟨hu,hu.base h.base (fun k hk=>(h.own k hk).1),hown,.inl h.mem,v1,?_,_,((s1.and s2).and s3).map fun W hW=>⟨Vals.own hW.1.1,?_,h1.whole⟩⟩
 ·have:=zAm (i:=0) ((h1.grown.block b hbl (by simp)).trans hc) v1;simpa using this
 ·have e:(s.top :: s.left).reverse++[x]=(s.left.reverse++[s.top])++[x]:=by simp
  show Each W (ys++[u]) ((s.top :: s.left).reverse++[x])
  rw[e];exact hW.1.2.2.1.append (show Each W [_] [_]from⟨hW.2,trivial⟩)
theorem DoO.enter3 (h:RefR W0 F b s w) (hW:W2=do_W w k tag least most) (hu:Upto F W2 w5) (q1:Upto (Ext F W2 w5) w5 w9) (q2:RefR W0 (Ext (Ext F W2 w5) w5 w9) b s3 w9) (q:Bool)
  (h4:w6=w9.setRow (w.heap.size+1) #[.int .i64 0,.int .i64 0,.bool q,.slice none 0 0,.string ⟨#[]⟩]) :
  DoO W0 F b (s3,{ De.none0 with is:=q }) w w6 (.returned (.agg #[.int .i64 0,.int .i64 0,.bool q,.slice none 0 0,.string ⟨#[]⟩])):=by
 have hga:w.grownBy W2 none:=by rw[hW];exact zAK _ _ _ _ _
 have hF:∀ j,F j->W0.heap.size<=j/\j<W2.heap.size:=fun j hj=>⟨(h.own j hj).1,Nat.lt_of_lt_of_le (h.own j hj).2 hga.size⟩
 have hs1:=hu.size;have hs2:=q1.size;have hu9:Upto F W2 w9:=hu.trans q1 (fun j hj hf=>by
  rcases hf with hf|hf
  ·exact hf
  ·omega)
 have hr9:RefR W0 (Ext F W2 w9) b s3 w9:=q2.wide (fun j hj=>by
  rcases hj with hj|hj
  ·rcases hj with hj|hj
   ·exact .inl hj
   ·exact .inr ⟨hj.1,by omega⟩
  ·exact .inr ⟨by omega,hj.2⟩) (zAo (zAb h.base hga) hF (by omega))
 exact DoO.fin (r:=(s3,{ De.none0 with is:=q })) (S:=⟨#[]⟩) (a:=none) (c:=0) h hW hu9 hr9 h4 rfl (zBJ hr9.imLt)
end
theorem zLs {W0 w:World} {F:Nat->Prop} {b:Nat} {s:De.Rd} (HNx:zJM W0 b) (h:RefR W0 F b s w) (tag least most:Int) (he:s.e=0) (hs:s.left.length<=2000) (hl:s.top.length<=2000) (htp:s.top≠[]) (hm:Tl.made tag=false) :
  Calls prog 35 #[.pointer (some ⟨b,0,none⟩),.agg #[.int .i64 1,.int .i64 tag,.int .i64 least,.int .i64 most]] w fun e w'=>DoO W0 F b ({ s with e:=5 },De.none0) w w' e:=by
 obtain⟨W2,hW2⟩:∃ W2,W2=do_W w 1 tag least most:=⟨_,rfl⟩
 have hga:w.grownBy W2 none:=by rw[hW2];exact zAK _ _ _ _ _
 have hs2:W2.heap.size=w.heap.size+3:=by rw[hW2];exact zBk _ _ _ _ _
 have hbl:=(h.own b h.mem).2;have b0:=zC5 w 1 tag least most;rw[<-hW2]at b0;have b1:=zC4 w 1 tag least most;rw[<-hW2]at b1;have b2:=zC3 w 1 tag least most;rw[<-hW2]at b2;have h2:=h.still hga;obtain⟨sb,so,lc,ya,yc,hc,hlc,hsb,hcy,_⟩:=h2.at_top;have c1:=cell_blk hc 1 rfl;rw[he]at c1;have c0:=cell_blk b0 0 rfl;rw[hW2]at c1 c0;unfold do_W at c1 c0;have hG:∀ W,W2.grownBy W none->W.heap[b]?=W2.heap[b]?:=fun W hW=>hW.block b (by omega) (by simp)
 obtain⟨N,hN⟩:∃ N,N=s.left.length:=⟨_,rfl⟩
 rw[<-hN]at hc hcy hlc;have hw1:IntKind.i64.wrap (((N+1:Nat):Int)-1)=(N:Int):=by
  simp only[IntKind.wrap,IntKind.bits,IntKind.signed];simp;omega
 obtain⟨N1,hN1⟩:∃ N1,N1=N+1:=⟨_,rfl⟩
 rw[<-hN1]at hc hw1 hlc;have HL0:Hid (∀ W,W2.grownBy W none->(Instr.loadAt 81 (.pointer (some ⟨b,0,none⟩))).run prog W=.ok (.slice (some ⟨sb,so,none⟩) N1 lc) W):=hid (fun W hW=>by
  have hcell:=cell_blk ((hG W hW).trans hc) 0 rfl;simp[go_sem,hcell])
 have HIx:Hid (∀ W,(Instr.indexAt 81 (.slice (some ⟨sb,so,none⟩) N1 lc) (.int .i64 (N:Nat))).run prog W=.ok (.pointer (some ⟨sb,so+N,none⟩)) W):=hid (fun W=>by
  have h1:(0:Int)<=(N:Int)/\(N:Int)<(N1:Int):=⟨by omega,by omega⟩;simp[go_sem,h1])
 have HLT:Hid (∀ W,W2.grownBy W none->(Instr.loadAt 33 (.pointer (some ⟨sb,so+N,none⟩))).run prog W=.ok (.slice ya s.top.length yc) W):=hid (fun W hW=>by
  have hcell:=(World.cell?_of_block (hW.block _ hsb (by simp))).trans hcy;simp[go_sem,hcell])
 have HLg:Hid (∀ W,W2.grownBy W none->(Instr.loadAt 3 (.pointer (some ⟨w.heap.size,1,none⟩))).run prog W=.ok (.int .i64 tag) W):=hid (fun W hW=>zGf (cell_blk ((hW.block _ (by omega) (by simp)).trans b0) 1 rfl));have HW1:=hid hw1;have HX:=hid h;have HX2:=hid h2;have HW2:=hid hW2;have HI5:Hid ((prog.info? 63).map (·.size)=some 5):=hid (by kernel_rfl);have hz:¬ False:=fun h=>h
 have HB:Hid (∀ W,W2.grownBy W none->(W.setCell ⟨b,1,none⟩ (.int .i64 ((5:Nat):Int))).heap[w.heap.size+1]?=some (.cells #[.int .i64 0,.int .i64 0,.bool false,.slice none 0 0,.string ⟨#[]⟩] 63 (0,0))/\(W.setCell ⟨b,1,none⟩ (.int .i64 ((5:Nat):Int))).heap[w.heap.size+2]?=some (.cells #[.int .i64 0,.int .i64 0,.bool false,.slice none 0 0,.string ⟨#[]⟩] 63 (0,0))):=hid (fun W hW=>by
  constructor
  ·rw[Below.heap_setCell _ _ _ _ (fun e=>by have:w.heap.size+1=b:=e;omega),hW.block _ (by omega) (by simp)];exact b1
  ·rw[Below.heap_setCell _ _ _ _ (fun e=>by have:w.heap.size+2=b:=e;omega),hW.block _ (by omega) (by simp)];exact b2)
 have HC5:Hid (∀ W,W2.grownBy W none->W.cell? ⟨b,1,none⟩=some (.int .i64 (s.e:Nat))/\W.frozen? ⟨b,1,none⟩=false):=hid (fun W hW=>⟨cell_blk ((hG W hW).trans hc) 1 rfl,zAh ((hG W hW).trans hc) 1⟩);have HCnd:Hid ((decide ((0:Int)<((s.top.length:Nat):Int))&&!(Tl.made tag))=true):=hid (by
  have:=List.length_pos_iff.2 htp;rw[hm];simp;omega)
 clear h h2 hga b0 b1 b2 hc hW2 hs2 hN hN1 hs hl hw1 hG hsb hcy hlc htp;go_enter func35,ntmps35
 go_wp2
 have e3:=HW2.out;unfold do_W at e3;rw[<-e3];clear e3;refine zDE _ b w.heap.size sb so N N1 lc s.top.length yc ya tag (decide ((0:Int)<((s.top.length:Nat):Int))) (Tl.made tag) W2 _ _ rfl rfl rfl (fun W=>by simp[go_sem]) (fun W=>by simp[go_sem]) (fun W hW=>HL0.out W hW) HW1.out (fun W=>HIx.out W) (fun W hW=>HLT.out W hW) rfl (fun W hW=>HLg.out W hW) (fun W=>zBa tag W) ⟨rfl,rfl,rfl,Nat.le_refl _,fun _ _ _=>rfl⟩ (fun us w4 hg4=>?_);simp only[zAA,zAN,Act.put,List.setIfInBounds_toArray,List.set_cons_succ,List.set_cons_zero];rw[HCnd.out];obtain⟨d1,f1⟩:=HC5.out w4 hg4;have HG4:=hid hg4;clear hg4;go_wp2_with (first
  |(refine wpList_load_row (by rfl) 63 (.tmp 5) (by rfl) (w.heap.size+1+1) (by rfl) _ #[.int .i64 0,.int .i64 0,.bool false,.slice none 0 0,.string ⟨#[]⟩] (0,0) _ (HB.out _ HG4.out).2 underlying63 (by rfl) HI5.out ?_;obtain⟨w9,hw9⟩:∃ w9,w9=w4.setCell ⟨b,1,none⟩ (.int .i64 5):=⟨_,rfl⟩;rw[<-hw9];have hb9:w9.heap[w.heap.size+1]?=some (.cells #[.int .i64 0,.int .i64 0,.bool false,.slice none 0 0,.string ⟨#[]⟩] 63 (0,0)):=(by rw[hw9];exact(HB.out _ HG4.out).1);have HB9:=hid hb9;have HW9:Hid (w9=w4.setCell ⟨b,1,none⟩ (.int .i64 ((5:Nat):Int))):=hid hw9;clear hw9 hb9)
  |(refine wpList_store_row (by rfl) 63 (.tmp 4) (.tmp 53) (by rfl) (w.heap.size+1) #[.int .i64 0,.int .i64 0,.bool false,.slice none 0 0,.string ⟨#[]⟩] (by rfl) (by rfl) _ _ HB9.out HI5.out rfl (dr_one5 _ _ _ _ _ _ _) ?_;obtain⟨w6,hw6⟩:∃ w6,w6=w9.setRow (w.heap.size+1) #[.int .i64 0,.int .i64 0,.bool false,.slice none 0 0,.string ⟨#[]⟩]:=⟨_,rfl⟩;rw[<-hw6];have HW6:=hid hw6;clear hw6))
 try simp only[Act.put,List.setIfInBounds_toArray,List.set_cons_succ,List.set_cons_zero]
 refine bodyPost_ret (v:=.agg #[.int .i64 0,.int .i64 0,.bool false,.slice none 0 0,.string ⟨#[]⟩]) ?_ rfl (DoO.err3 HX.out HW2.out (zAa _ _) (Upto.refl F W2) (HX2.out.wide (fun j hj=>.inl hj) (zAo HX2.out.base HX2.out.own (Nat.le_refl _))) HG4.out 5 HW9.out HW6.out);exact results_cell_row results35 _ _ (w.heap.size+1) _ _ (0,0) _ rfl (by rw[HW6.out];exact setRow_heap _ _ _ _ _ _ HB9.out) underlying63 rfl HI5.out
theorem RefR.entered {W0 w:World} {F:Nat->Prop} {b:Nat} {s:De.Rd} (h:RefR W0 F b s w):∃ sb so lc ys,w.heap[b]?=some (.cells #[.slice (some ⟨sb,so,none⟩) (s.left.length+1) lc,.int .i64 (s.e:Nat)] 83 (0,0))/\ys.length=s.left.length+1/\(∀ u∈ys,u.oneCell'=true) /\
  Sup (ImR W0 F b) w (Lev (.slice (some ⟨sb,so,none⟩) (s.left.length+1) lc) ys (s.left.reverse++[s.top])):=by
 obtain⟨lv,hc,ys,hy⟩:=h.body;obtain⟨hV,hE,hW⟩:=hy.now;have hyl:ys.length=s.left.length+1:=by rw[hE.len];simp
 obtain⟨a,sb,so,c,e,h1,h2,h3⟩:=hV;rw[hyl]at e h1 h2;obtain⟨rfl,hsb⟩:=h2 (by omega);subst e;exact⟨sb,so,c,ys,hc,hyl,hE.one,hy⟩
theorem zLr {W0 w:World} {F:Nat->Prop} {b:Nat} {s:De.Rd} (HNx:zJM W0 b) (h:RefR W0 F b s w) (tag least most:Int) (he:s.e=0) (hs:s.left.length<=2000) (hl:s.top.length<=2000) (hq:¬(s.top≠[]/\Tl.made tag=false)) {s2:De.Rd} (hnx:De.next s tag=(s2,none)) :
  Calls prog 35 #[.pointer (some ⟨b,0,none⟩),.agg #[.int .i64 1,.int .i64 tag,.int .i64 least,.int .i64 most]] w fun e w'=>DoO W0 F b (s2,De.none0) w w' e:=by
 obtain⟨W2,hW2⟩:∃ W2,W2=do_W w 1 tag least most:=⟨_,rfl⟩
 have hga:w.grownBy W2 none:=by rw[hW2];exact zAK _ _ _ _ _
 have hs2:W2.heap.size=w.heap.size+3:=by rw[hW2];exact zBk _ _ _ _ _
 have hbl:=(h.own b h.mem).2;have b0:=zC5 w 1 tag least most;rw[<-hW2]at b0;have b1:=zC4 w 1 tag least most;rw[<-hW2]at b1;have b2:=zC3 w 1 tag least most;rw[<-hW2]at b2;have h2:=h.still hga;obtain⟨sb,so,lc,ya,yc,hc,hlc,hsb,hcy,_⟩:=h2.at_top;have c1:=cell_blk hc 1 rfl;rw[he]at c1;have c0:=cell_blk b0 0 rfl;rw[hW2]at c1 c0;unfold do_W at c1 c0;have hG:∀ W,W2.grownBy W none->W.heap[b]?=W2.heap[b]?:=fun W hW=>hW.block b (by omega) (by simp)
 obtain⟨N,hN⟩:∃ N,N=s.left.length:=⟨_,rfl⟩
 rw[<-hN]at hc hcy hlc;have hw1:IntKind.i64.wrap (((N+1:Nat):Int)-1)=(N:Int):=by
  simp only[IntKind.wrap,IntKind.bits,IntKind.signed];simp;omega
 obtain⟨N1,hN1⟩:∃ N1,N1=N+1:=⟨_,rfl⟩
 rw[<-hN1]at hc hw1 hlc;have HL0:Hid (∀ W,W2.grownBy W none->(Instr.loadAt 81 (.pointer (some ⟨b,0,none⟩))).run prog W=.ok (.slice (some ⟨sb,so,none⟩) N1 lc) W):=hid (fun W hW=>by
  have hcell:=cell_blk ((hG W hW).trans hc) 0 rfl;simp[go_sem,hcell])
 have HIx:Hid (∀ W,(Instr.indexAt 81 (.slice (some ⟨sb,so,none⟩) N1 lc) (.int .i64 (N:Nat))).run prog W=.ok (.pointer (some ⟨sb,so+N,none⟩)) W):=hid (fun W=>by
  have h1:(0:Int)<=(N:Int)/\(N:Int)<(N1:Int):=⟨by omega,by omega⟩;simp[go_sem,h1])
 have HLT:Hid (∀ W,W2.grownBy W none->(Instr.loadAt 33 (.pointer (some ⟨sb,so+N,none⟩))).run prog W=.ok (.slice ya s.top.length yc) W):=hid (fun W hW=>by
  have hcell:=(World.cell?_of_block (hW.block _ hsb (by simp))).trans hcy;simp[go_sem,hcell])
 have HLg:Hid (∀ W,W2.grownBy W none->(Instr.loadAt 3 (.pointer (some ⟨w.heap.size,1,none⟩))).run prog W=.ok (.int .i64 tag) W):=hid (fun W hW=>zGf (cell_blk ((hW.block _ (by omega) (by simp)).trans b0) 1 rfl));have HW1:=hid hw1;have HX:=hid h;have HX2:=hid h2;have HW2:=hid hW2;have HI5:Hid ((prog.info? 63).map (·.size)=some 5):=hid (by kernel_rfl);have HT1:Hid (∀ W,W2.grownBy W none->W.cell? ⟨w.heap.size,1,none⟩=some (.int .i64 tag)):=hid (fun W hW=>cell_blk ((hW.block _ (by omega) (by simp)).trans b0) 1 rfl);have hcnd:(decide ((0:Int)<((s.top.length:Nat):Int))&&!(Tl.made tag))=false:=by
  by_cases ht:s.top=[]
  ·rw[ht];rfl
  ·have:Tl.made tag=true:=by
    rcases Bool.eq_false_or_eq_true (Tl.made tag)with h|h
    ·exact h
    ·exact absurd ⟨ht,h⟩ hq
   rw[this];simp
 have HCnd:=hid hcnd;have HBs:Hid (∀ W,W2.grownBy W none->∀ w5,Upto F W w5->w5.heap[w.heap.size+1]?=some (.cells #[.int .i64 0,.int .i64 0,.bool false,.slice none 0 0,.string ⟨#[]⟩] 63 (0,0))):=hid (fun W hW w5 hu=>by
  have:=hW.size;rw[hu.block _ (by omega) (fun hf=>by have:=(h.own _ hf).2;omega),hW.block _ (by omega) (by simp)];exact b1)
 have HNa:Hid (∀ W,W2.grownBy W none->Calls prog 76 #[.pointer (some ⟨b,0,none⟩),.int .i64 tag] W fun e w'=>NxO W0 F b s tag W w' e):=hid (fun W hW=>HNx F s W tag (h2.still hW) hs (by omega));have HN:Hid (∀ W,W2.grownBy W none->Calls prog 76 #[.pointer (some ⟨b,0,none⟩),.int .i64 tag] W fun e w'=>e=.returned (.tuple #[.slice none 0 0,.slice none 0 0,.bool false])/\Upto F W w'/\RefR W0 (Ext F W w') b s2 w'):=hid (fun W hW=>(HNa.out W hW).mono (fun e w' hh=>by
  obtain⟨q1,q2,q3⟩:=hh;rw[hnx]at q2 q3;exact⟨q3,q1,q2⟩))
 clear h h2 hga b0 b1 b2 hc hW2 hs2 hN hN1 hs hl hw1 hG hsb hcy hlc hcnd hq hnx;go_enter func35,ntmps35
 go_wp2
 have e3:=HW2.out;unfold do_W at e3;rw[<-e3];clear e3;refine zDE _ b w.heap.size sb so N N1 lc s.top.length yc ya tag (decide ((0:Int)<((s.top.length:Nat):Int))) (Tl.made tag) W2 _ _ rfl rfl rfl (fun W=>by simp[go_sem]) (fun W=>by simp[go_sem]) (fun W hW=>HL0.out W hW) HW1.out (fun W=>HIx.out W) (fun W hW=>HLT.out W hW) rfl (fun W hW=>HLg.out W hW) (fun W=>zBa tag W) ⟨rfl,rfl,rfl,Nat.le_refl _,fun _ _ _=>rfl⟩ (fun us w4 hg4=>?_);simp only[zAA,zAN,Act.put,List.setIfInBounds_toArray,List.set_cons_succ,List.set_cons_zero];rw[HCnd.out];have hlg:=HLg.out w4 hg4;have HG4:=hid hg4;clear hg4;have htg:w4.cell? ⟨w.heap.size,1,none⟩=some (.int .i64 tag):=HT1.out w4 HG4.out;go_wp2_with (first
  |(go_at_call 76;refine(HN.out _ HG4.out).mono ?_;rintro e w5 ⟨rfl,q1,q2⟩;have Q1:=hid q1;have Q2:=hid q2;clear q1 q2)
  |(refine wpList_store_row (by rfl) 63 (.tmp 4) (.tmp 76) (by rfl) (w.heap.size+1) #[.int .i64 0,.int .i64 0,.bool false,.slice none 0 0,.string ⟨#[]⟩] (by rfl) (by rfl) _ _ (HBs.out _ HG4.out _ Q1.out) HI5.out rfl (dr_one5 _ _ _ _ _ _ _) ?_;obtain⟨w6,hw6⟩:∃ w6,w6=w5.setRow (w.heap.size+1) #[.int .i64 0,.int .i64 0,.bool false,.slice none 0 0,.string ⟨#[]⟩]:=⟨_,rfl⟩;rw[<-hw6];have HW6:=hid hw6;clear hw6))
 try simp only[Act.put,List.setIfInBounds_toArray,List.set_cons_succ,List.set_cons_zero]
 refine bodyPost_ret (v:=.agg #[.int .i64 0,.int .i64 0,.bool false,.slice none 0 0,.string ⟨#[]⟩]) ?_ rfl (DoO.none3 HX.out HW2.out HG4.out Q1.out Q2.out HW6.out);exact results_cell_row results35 _ _ (w.heap.size+1) _ _ (0,0) _ rfl (by rw[HW6.out];exact setRow_heap _ _ _ _ _ _ (HBs.out _ HG4.out _ Q1.out)) underlying63 rfl HI5.out
theorem zLq {W0 w:World} {F:Nat->Prop} {b:Nat} {s:De.Rd} (HNx:zJM W0 b) (h:RefR W0 F b s w) (tag least most:Int) (he:s.e=0) (hs:s.left.length<=2000) (hl:s.top.length<=2000) (hq:¬(s.top≠[]/\Tl.made tag=false)) {s2:De.Rd} {x y:List Nat} (hnx:De.next s tag=(s2,some (x,y))) :
  Calls prog 35 #[.pointer (some ⟨b,0,none⟩),.agg #[.int .i64 1,.int .i64 tag,.int .i64 least,.int .i64 most]] w fun e w'=>DoO W0 F b ({ s2 with top:=x,left:=s2.top :: s2.left },{ De.none0 with is:=true }) w w' e:=by
 obtain⟨W2,hW2⟩:∃ W2,W2=do_W w 1 tag least most:=⟨_,rfl⟩
 have hga:w.grownBy W2 none:=by rw[hW2];exact zAK _ _ _ _ _
 have hs2:W2.heap.size=w.heap.size+3:=by rw[hW2];exact zBk _ _ _ _ _
 have hbl:=(h.own b h.mem).2;have b0:=zC5 w 1 tag least most;rw[<-hW2]at b0;have b1:=zC4 w 1 tag least most;rw[<-hW2]at b1;have b2:=zC3 w 1 tag least most;rw[<-hW2]at b2;have h2:=h.still hga;obtain⟨sb,so,lc,ya,yc,hc,hlc,hsb,hcy,_⟩:=h2.at_top;have c1:=cell_blk hc 1 rfl;rw[he]at c1;have c0:=cell_blk b0 0 rfl;rw[hW2]at c1 c0;unfold do_W at c1 c0;have hG:∀ W,W2.grownBy W none->W.heap[b]?=W2.heap[b]?:=fun W hW=>hW.block b (by omega) (by simp)
 obtain⟨N,hN⟩:∃ N,N=s.left.length:=⟨_,rfl⟩
 rw[<-hN]at hc hcy hlc;have hw1:IntKind.i64.wrap (((N+1:Nat):Int)-1)=(N:Int):=by
  simp only[IntKind.wrap,IntKind.bits,IntKind.signed];simp;omega
 obtain⟨N1,hN1⟩:∃ N1,N1=N+1:=⟨_,rfl⟩
 rw[<-hN1]at hc hw1 hlc;have HL0:Hid (∀ W,W2.grownBy W none->(Instr.loadAt 81 (.pointer (some ⟨b,0,none⟩))).run prog W=.ok (.slice (some ⟨sb,so,none⟩) N1 lc) W):=hid (fun W hW=>by
  have hcell:=cell_blk ((hG W hW).trans hc) 0 rfl;simp[go_sem,hcell])
 have HIx:Hid (∀ W,(Instr.indexAt 81 (.slice (some ⟨sb,so,none⟩) N1 lc) (.int .i64 (N:Nat))).run prog W=.ok (.pointer (some ⟨sb,so+N,none⟩)) W):=hid (fun W=>by
  have h1:(0:Int)<=(N:Int)/\(N:Int)<(N1:Int):=⟨by omega,by omega⟩;simp[go_sem,h1])
 have HLT:Hid (∀ W,W2.grownBy W none->(Instr.loadAt 33 (.pointer (some ⟨sb,so+N,none⟩))).run prog W=.ok (.slice ya s.top.length yc) W):=hid (fun W hW=>by
  have hcell:=(World.cell?_of_block (hW.block _ hsb (by simp))).trans hcy;simp[go_sem,hcell])
 have HLg:Hid (∀ W,W2.grownBy W none->(Instr.loadAt 3 (.pointer (some ⟨w.heap.size,1,none⟩))).run prog W=.ok (.int .i64 tag) W):=hid (fun W hW=>zGf (cell_blk ((hW.block _ (by omega) (by simp)).trans b0) 1 rfl));have HW1:=hid hw1;have HX:=hid h;have HX2:=hid h2;have HW2:=hid hW2;have HI5:Hid ((prog.info? 63).map (·.size)=some 5):=hid (by kernel_rfl);have HT1:Hid (∀ W,W2.grownBy W none->W.cell? ⟨w.heap.size,1,none⟩=some (.int .i64 tag)):=hid (fun W hW=>cell_blk ((hW.block _ (by omega) (by simp)).trans b0) 1 rfl);have hcnd:(decide ((0:Int)<((s.top.length:Nat):Int))&&!(Tl.made tag))=false:=by
  by_cases ht:s.top=[]
  ·rw[ht];rfl
  ·have:Tl.made tag=true:=by
    rcases Bool.eq_false_or_eq_true (Tl.made tag)with h|h
    ·exact h
    ·exact absurd ⟨ht,h⟩ hq
   rw[this];simp
 have HCnd:=hid hcnd;have HBs:Hid (∀ W,W2.grownBy W none->∀ w5,Upto F W w5->w5.heap[w.heap.size+1]?=some (.cells #[.int .i64 0,.int .i64 0,.bool false,.slice none 0 0,.string ⟨#[]⟩] 63 (0,0))):=hid (fun W hW w5 hu=>by
  have:=hW.size;rw[hu.block _ (by omega) (fun hf=>by have:=(h.own _ hf).2;omega),hW.block _ (by omega) (by simp)];exact b1)
 have HNa:Hid (∀ W,W2.grownBy W none->Calls prog 76 #[.pointer (some ⟨b,0,none⟩),.int .i64 tag] W fun e w'=>NxO W0 F b s tag W w' e):=hid (fun W hW=>HNx F s W tag (h2.still hW) hs (by omega));have hF:∀ j,F j->W0.heap.size<=j/\j<W2.heap.size:=fun j hj=>⟨(h.own j hj).1,Nat.lt_of_lt_of_le (h.own j hj).2 hga.size⟩
 have hl2:s2.left.length<=2000:=by
  have:s2.left=s.left:=by
   unfold De.next at hnx;split at hnx
   ·cases hnx
   ·split at hnx
    ·cases hnx
    ·split at hnx
     ·cases hnx
     ·simp only[Prod.mk.injEq]at hnx;obtain⟨rfl,_⟩:=hnx;rfl
  rw[this];exact hs
 have HL2:=hid hl2;have HS2:=hid hs2;have HFl:Hid (∀ j,F j->j<w.heap.size):=hid (fun j hj=>(h.own j hj).2);have HN:Hid (∀ W,W2.grownBy W none->Calls prog 76 #[.pointer (some ⟨b,0,none⟩),.int .i64 tag] W fun e w'=>∃ a2 a3 c2 c3,e=.returned (.tuple #[.slice a2 x.length c2,.slice a3 y.length c3,.bool true])/\Upto F W w'/\Upto F W2 w'/\RefR W0 (Ext F W2 w') b s2 w'/\Sup (ImR W0 (Ext F W2 w') b) w' (fun X=>Bytes X (.slice a2 x.length c2) x/\Whole0 (.slice a2 x.length c2))):=hid (fun W hW=>(HNa.out W hW).mono (fun e w' hh=>by
  obtain⟨q1,q2,q3⟩:=hh;rw[hnx]at q2 q3;obtain⟨a2,a3,c2,c3,q4,q5⟩:=q3;obtain⟨m1,m2⟩:=zEx hW q1 hF q2 (zAb h.base hga);have hsW:=hW.size;refine⟨a2,a3,c2,c3,q4,q1,m1,m2,(q5.map (fun _ h=>h.1)).mono (fun j hj=>⟨hj.1.imp (fun hf=>?_) id,hj.2⟩) m2.imLt⟩;rcases hf with hf|hf
  ·exact .inl hf
  ·exact .inr ⟨by omega,hf.2⟩))
 have HI1:Hid ((prog.info? 33).map (fun i=>(i.zero,i.size,i.bytes))=some (some (.slice none 0 0),1,24)):=hid (by kernel_rfl);clear h h2 hga b0 b1 b2 hc hW2 hs2 hN hN1 hs hl hw1 hG hsb hcy hlc hcnd hq hnx hF hl2;go_enter func35,ntmps35
 go_wp2
 have e3:=HW2.out;unfold do_W at e3;rw[<-e3];clear e3;refine zDE _ b w.heap.size sb so N N1 lc s.top.length yc ya tag (decide ((0:Int)<((s.top.length:Nat):Int))) (Tl.made tag) W2 _ _ rfl rfl rfl (fun W=>by simp[go_sem]) (fun W=>by simp[go_sem]) (fun W hW=>HL0.out W hW) HW1.out (fun W=>HIx.out W) (fun W hW=>HLT.out W hW) rfl (fun W hW=>HLg.out W hW) (fun W=>zBa tag W) ⟨rfl,rfl,rfl,Nat.le_refl _,fun _ _ _=>rfl⟩ (fun us w4 hg4=>?_);simp only[zAA,zAN,Act.put,List.setIfInBounds_toArray,List.set_cons_succ,List.set_cons_zero];rw[HCnd.out];have HG4:=hid hg4;clear hg4;have htg:w4.cell? ⟨w.heap.size,1,none⟩=some (.int .i64 tag):=HT1.out w4 HG4.out;go_wp2_with (first
  |(go_at_call 76;refine(HN.out _ HG4.out).mono ?_;rintro e w5 ⟨a2,a3,c2,c3,rfl,q0,q1,q2,q3⟩;have Q0:=hid q0;have Q1:=hid q1;have Q2:=hid q2;have Q3:=hid q3;obtain⟨sb2,so2,lc2,ys,hc5,hyl5,hone5,hy5⟩:=q2.entered;have HC5:=hid hc5;have HYl:=hid hyl5;have HOne:=hid hone5;have HY5:=hid hy5;obtain⟨n2,hn2⟩:∃ n2,n2=s2.left.length+1:=⟨_,rfl⟩;have HN2:Hid (n2<=2001):=hid (by have:=HL2.out;omega);rw[<-hn2]at HC5 HYl HY5;have HV5:Hid (∀ W,w5.grownBy W none->Vals W (.slice (some ⟨sb2,so2,none⟩) n2 lc2) ys):=hid (fun W hW=>HY5.out.now.1.grown hW);have e5:=cell_blk ((zAc (zAa w5 none) (.cells #[] 33)).block b (zAi HC5.out) (by simp) |>.trans HC5.out) 0 rfl;have HGb:Hid (∀ W,w5.grownBy W none->W.heap[b]?=w5.heap[b]?):=hid (fun W hW=>hW.block b (zAi HC5.out) (by simp));clear q0 q1 q2 q3 hc5 hyl5 hone5 hy5 hn2)
  |(at_builtin;refine zAO (by rfl) (.tmp 64) (.tmp 68) 81 (by rfl) w5.heap.size 33 (.slice none 0 0) 24 underlying81 HI1.out rfl (by decide) _ 0 [] (by rfl) (FrV.first w5).own _ ys (by rfl) (HV5.out _ (FrV.first w5).grown) (Whole0.some _ _ _) HOne.out (by have:=HYl.out;have:=HN2.out;omega) (by rw[zAe];omega) ?_;intro v1 w1 ho1 hg1 _;have F1:Hid (FrV w5 w1 v1 ys):=hid ((FrV.first w5).step (ys:=ys) (by simpa using ho1) hg1);clear ho1 hg1)
  |(at_builtin;refine zAO (by rfl) (.tmp 69) (.tmp 71) 81 (by rfl) w5.heap.size 33 (.slice none 0 0) 24 underlying81 HI1.out rfl (by decide) v1 ys.length ys (by rfl) (F1.out.alloc _).own _ [.slice a2 x.length c2] (by rfl) (Vals.lit (xs:=[.slice a2 x.length c2]) (alloc_at w1 _)) (Whole0.some _ _ _) (by simp[Value.oneCell']) (by have:=HYl.out;have:=HN2.out;simp;omega) (by have:=F1.out.grown.size;rw[zAe];omega) ?_;intro v2 w2 ho2 hg2 _;obtain⟨n3,hn3⟩:∃ n3,n3=ys.length+[Value.slice a2 x.length c2].length:=⟨_,rfl⟩;rw[<-hn3]at ho2;have hF2:FrV w5 w2 v2 (ys++[.slice a2 x.length c2]):=(F1.out.alloc _).step ho2 hg2;obtain⟨ai,gi,ci,hvi,_,_,_,_⟩:=zAl ho2;subst hvi;have F2:=hid hF2;have hb2:=(HGb.out w2 hF2.grown).trans HC5.out;have d2:=cell_blk hb2 0 rfl;have f2:=zAh hb2 0;clear ho2 hg2 hF2 hb2 hn3)
  |(obtain⟨w9,hw9⟩:∃ w9,w9=w2.setCell ⟨b,0,none⟩ (.slice ai n3 ci):=⟨_,rfl⟩;rw[<-hw9];have hpu:=Q2.out.push HC5.out HY5.out Q3.out F2.out hw9;have hb9:w9.heap[w.heap.size+1]?=some (.cells #[.int .i64 0,.int .i64 0,.bool false,.slice none 0 0,.string ⟨#[]⟩] 63 (0,0)):=(by rw[hpu.1.block _ (zAi (HBs.out _ HG4.out _ Q0.out)) (fun hf=>Or.elim hf (fun hf=>by have:=HFl.out _ hf;omega) (fun hf=>by have:=HS2.out;omega))];exact HBs.out _ HG4.out _ Q0.out);have HPu:=hid hpu;have HB9:=hid hb9;clear hpu hb9 hw9;refine wpList_store_row (by rfl) 63 (.tmp 4) (.tmp 76) (by rfl) (w.heap.size+1) #[.int .i64 0,.int .i64 0,.bool true,.slice none 0 0,.string ⟨#[]⟩] (by rfl) (by rfl) _ _ HB9.out HI5.out rfl (dr_one5 _ _ _ _ _ _ _) ?_;obtain⟨w6,hw6⟩:∃ w6,w6=w9.setRow (w.heap.size+1) #[.int .i64 0,.int .i64 0,.bool true,.slice none 0 0,.string ⟨#[]⟩]:=⟨_,rfl⟩;rw[<-hw6];have HW6:=hid hw6;clear hw6))
 try simp only[Act.put,List.setIfInBounds_toArray,List.set_cons_succ,List.set_cons_zero]
 refine bodyPost_ret (v:=.agg #[.int .i64 0,.int .i64 0,.bool true,.slice none 0 0,.string ⟨#[]⟩]) ?_ rfl (DoO.enter3 HX.out HW2.out Q1.out HPu.out.1 HPu.out.2 true HW6.out);exact results_cell_row results35 _ _ (w.heap.size+1) _ _ (0,0) _ rfl (by rw[HW6.out];exact setRow_heap _ _ _ _ _ _ HB9.out) underlying63 rfl HI5.out
theorem zDe {W0 w:World} {F:Nat->Prop} {b:Nat} {s:De.Rd} (h:RefR W0 F b s w) (k tag least most:Int) (hk:k=1∨k=2∨k=3∨k=7∨k=8) (hs:s.left.length<=2000) (hl:s.top.length<=2000) :
  Calls prog 35 #[.pointer (some ⟨b,0,none⟩),.agg #[.int .i64 k,.int .i64 tag,.int .i64 least,.int .i64 most]] w fun e w'=>DoO W0 F b (De.ask s k tag least most) w w' e:=by
 by_cases h1:k=1
 ·subst h1;by_cases he:s.e=0
  ·have hr:De.ask s 1 tag least most=((De.enter s tag).1,{ De.none0 with is:=(De.enter s tag).2 }):=by unfold De.ask;rw[if_neg (by omega),if_pos rfl]
   rw[hr];by_cases hq:s.top≠[]/\Tl.made tag=false
   ·have hen:De.enter s tag=({ s with e:=5 },false):=by unfold De.enter;rw[if_neg (by omega),if_pos hq]
    rw[hen];exact zLs zB6 h tag least most he hs hl hq.1 hq.2
   ·cases hnx:De.next s tag with
    |mk s2 r =>
     cases r with
     |none =>
      have hen:De.enter s tag=(s2,false):=by unfold De.enter;rw[if_neg (by omega),if_neg hq,hnx]
      rw[hen];exact zLr zB6 h tag least most he hs hl hq hnx
     |some xy =>
      obtain⟨x,y⟩:=xy;have hen:De.enter s tag=({ s2 with top:=x,left:=s2.top :: s2.left },true):=by unfold De.enter;rw[if_neg (by omega),if_neg hq,hnx]
      rw[hen];exact zLq zB6 h tag least most he hs hl hq hnx
  ·exact zGM h 1 tag least most he
 ·by_cases he:s.e=0
  ·by_cases h2:k=2
   ·subst h2;have hr:De.ask s 2 tag least most=(De.leave s,De.none0):=by unfold De.ask;rw[if_neg (by omega),if_neg (by decide),if_pos rfl]
    rw[hr];cases hlf:s.left with
    |nil=>exact zLp h tag least most he hs hlf
    |cons l0 r =>
     by_cases htp:s.top=[]
     ·exact zLn h tag least most he hs hlf htp
     ·exact zLo h tag least most he hs hlf htp
   ·refine zJ8 zB6 h k (k-3).toNat (De.tagOf k) (by omega) (by omega) rfl ?_ tag least most he hs hl ?_
    ·rcases(by omega:k=3∨k=7∨k=8)with rfl|rfl|rfl <;> rfl
    ·intro x hx v W hB;rcases(by omega:k=3∨k=7∨k=8)with rfl|rfl|rfl
     ·exact zIB v x tag least most hB
     ·exact zIA v x tag least most (by omega) hB
     ·exact zIz v x tag least most (by omega) hB
  ·exact zGM h k tag least most he
end Go.Proofs.YtijkaknggdaajaaGreatDoor
