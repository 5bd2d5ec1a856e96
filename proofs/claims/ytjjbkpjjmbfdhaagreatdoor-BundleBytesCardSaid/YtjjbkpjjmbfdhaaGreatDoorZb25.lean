import Derived.Test.YtjjbkpjjmbfdhaaGreatDoorZb13
import Derived.Test.YtjjbkpjjmbfdhaaGreatDoorZb20
import Derived.Test.YtjjbkpjjmbfdhaaGreatDoorZb24
import Derived.Deep.RegionHeld3
import Derived.BigQuiet
set_option linter.unusedVariables false
set_option linter.unusedSimpArgs false
set_option maxRecDepth 100000
set_option maxHeartbeats 16000000
namespace Go.Proofs.YtjjbkpjjmbfdhaaGreatDoor
open Lib (hid)
open Go.RowKit
structure AddR (W0:World) (F:Nat→Prop) (b:Nat) (tv:Value) (s:De.St) (x:Value) (l:List Nat) (w:World) (ra:Option Addr) (n c:Nat) (xs:List Value) (W:World):Prop where
 upto:Upto F w W
 cell:W.heap[b]?=some (.cells #[tv,.slice ra n c,.int .i64 0] 83 (0,0))
 rows:RowsW W0 (Ext F w W) b tv (.slice ra n c) s W
 le:n≤20
 own:W.ownsRow 0 95 1 (.slice ra n c) n xs
 levs:∀ k,k≤s.op.length→LevS (Im W0 (Ext F w W) b (.slice ra n c)) W (xs.getD k (.slice none 0 0)) (levOf s k)
 elem:Sup (Im W0 (Ext F w W) b (.slice ra n c)) W (fun W=>Bytes W x l∧Whole0 x)
theorem Sup.drewN {F:Nat→Prop} {w:World} {P:World→Prop} (h:Sup F w P) (n:Nat):Sup F (w.drewN n) P:=h.kept ⟨Nat.le_refl _,fun _ _=>rfl⟩
theorem Upto.drewN {F:Nat→Prop} {w w':World} (h:Upto F w w') (n:Nat):Upto F w (w'.drewN n):=⟨h.os,h.tape,h.output,h.size,h.block⟩
theorem LevS.drewN {F:Nat→Prop} {w:World} {x:Value} {L:List (List Nat)} (h:LevS F w x L) (m:Nat):LevS F (w.drewN m) x L:=by
 obtain ⟨ys,h⟩:=h
 exact ⟨ys,h.drewN m⟩
theorem RowsW.drewN {W0:World} {F:Nat→Prop} {b:Nat} {tv rv:Value} {s:De.St} {w:World} (h:RowsW W0 F b tv rv s w) (m:Nat):RowsW W0 F b tv rv s (w.drewN m):=by
 obtain ⟨n,xs,h1,h2,h3⟩:=h.rows
 exact ⟨h.rown,h.deep,h.room,h.tags.drewN m,n,xs,h1,h2,fun k hk=>(h3 k hk).drewN m⟩
section
variable {W0:World} {F:Nat→Prop} {b:Nat} {tv:Value} {s:De.St} {x:Value} {l:List Nat} {w:World} {ra:Option Addr} {n c:Nat} {xs:List Value} {W:World}
theorem AddR.drewN (h:AddR W0 F b tv s x l w ra n c xs W) (m:Nat):AddR W0 F b tv s x l w ra n c xs (W.drewN m) :=
 ⟨h.upto.drewN m,h.cell,h.rows.drewN m,h.le,h.own,fun k hk=>(h.levs k hk).drewN m,h.elem.drewN m⟩
theorem AddR.at2 (h:AddR W0 F b tv s x l w ra n c xs W) (hF:∀ k,F k→W0.heap.size≤k∧k<w.heap.size) (hm:F b) {A:Obj} {w2:World} (hg:(W.alloc A).grownBy w2 (Value.slice ra n c).ownBlock) :
  w2.heap[b]?=some (.cells #[tv,.slice ra n c,.int .i64 0] 83 (0,0)):=by
 have hbl:b<W.heap.size:=Nat.lt_of_lt_of_le (hF b hm).2 h.upto.size
 rw[hg.block b (by rw[alloc_size];omega) (fun e=>(h.rows.rown b e.symm).2 rfl)]
 show (W.heap.push A)[b]?=_
 rw[Array.getElem?_push_lt hbl,←h.cell,Array.getElem?_eq_getElem hbl]
theorem AddR.more (h:AddR W0 F b tv s x l w ra n c xs W) (hb:W0.grownBy w none) (hF:∀ k,F k→W0.heap.size≤k∧k<w.heap.size) (hm:F b) (hn:n<20) {A:Obj} {w2:World} {a2:Option Addr} {c2:Nat}
  (ho:w2.ownsRow 0 95 1 (.slice a2 (n+1) c2) (n+1) (xs++[.slice none 0 0])) (hg:(W.alloc A).grownBy w2 (Value.slice ra n c).ownBlock)
  (hv:(Value.slice a2 (n+1) c2).ownBlock=(Value.slice ra n c).ownBlock∨(Value.slice a2 (n+1) c2).ownBlock=some (W.alloc A).heap.size) :
  AddR W0 F b tv s x l w a2 (n+1) c2 (xs++[.slice none 0 0]) (w2.setCell ⟨b,1,none⟩ (.slice a2 (n+1) c2)):=by
 have hbW:W0.grownBy W none:=h.upto.base hb (fun k hk=>(hF k hk).1)
 have hFW:=ext_own hb hF h.upto.size
 obtain ⟨k1,k2,k3⟩:=rows_grow hbW hFW (.inl hm) h.cell h.rows hn (fun h0=>by
  obtain ⟨a,n',c',e,hlt⟩:=h.rows.room h0
  simp only[Value.slice.injEq] at e
  omega) h.levs ho hg hv
 have hs3:=k1.size
 have eX:Ext (Ext F w W) W (w2.setCell ⟨b,1,none⟩ (.slice a2 (n+1) c2))=Ext F w (w2.setCell ⟨b,1,none⟩ (.slice a2 (n+1) c2)):=funext fun k=>propext (Ext.trans h.upto.size hs3 k)
 have hr:∀ k,k<W.heap.size→(Value.slice a2 (n+1) c2).ownBlock=some k→(Value.slice ra n c).ownBlock=some k:=fun k hk e=>by
  rcases hv with h'|h'
  ·rw[←h'];exact e
  ·rw[h'] at e;have:=Option.some.inj e;rw[alloc_size] at this;omega
 rw[eX] at k3
 refine ⟨h.upto.trans k1 (fun k hk hmu=>?_),k2,k3,hn,own_setCell ho (fun e=>?_),fun k hk=>?_,?_⟩
 ·rcases hmu with rfl|hmu
  ·exact hm
  ·rcases (h.rows.rown k hmu).1 with h'|h'
   ·exact h'
   ·omega
 ·exact (h.rows.rown b (hr b (Nat.lt_of_lt_of_le (hF b hm).2 h.upto.size) e)).2 rfl
 ·rw[getD_nil]
  have:=(h.levs k hk).keep hbW hFW k1 hr
  rwa [eX] at this
 ·have:=im_keep hbW hFW h.elem k1 hr
  rwa [eX] at this
end
theorem AddR.inner {W0:World} {F:Nat→Prop} {b:Nat} {tv:Value} {s:De.St} {x:Value} {l:List Nat} {w:World} {ra:Option Addr} {n c:Nat} {xs:List Value} {W:World} (h:AddR W0 F b tv s x l w ra n c xs W) {K:Nat} (hK:K=s.op.length) (hn:K<n) :
  ∃ g la ln lc ys,ra=some ⟨g,0,none⟩∧xs.getD K (.slice none 0 0)=.slice la ln lc∧W.cell? ⟨g,K,none⟩=some (.slice la ln lc)∧W.frozen? ⟨g,K,none⟩=false∧g<W.heap.size∧Sup (Im W0 (Ext F w W) b (.slice ra n c)) W (Lev (.slice la ln lc) ys (levOf s K)):=by
 obtain ⟨ys,hs⟩:=h.levs K (by omega)
 obtain ⟨la,sb,so,lc,he,_⟩:=hs.now.1
 have hl:=h.own.1
 rcases h.own.2 with ⟨_,h0⟩|⟨g,cap,cur,h4,_,h5,_,_,h6,h7⟩
 ·omega
 ·simp only[Value.slice.injEq] at h4
  obtain ⟨rfl,_,_⟩:=h4
  rw[he] at hs
  refine ⟨g,la,_,lc,ys,rfl,he,cell_blk h5 K ?_,free_blk h5 K,blk_lt h5,hs⟩
  rw[←he]
  have hk2:xs[K]?=some (xs.getD K (.slice none 0 0)):=by
   rw[List.getD_eq_getElem?_getD,List.getElem?_eq_getElem (by omega)];rfl
  rw[←hk2,←h7,List.getElem?_take,if_pos (by omega)]
  simp
theorem AddR.put {W0:World} {F:Nat→Prop} {b:Nat} {tv:Value} {s:De.St} {x:Value} {l:List Nat} {w:World} {g n c:Nat} {xs ys:List Value} {W w1:World} {v1:Value} {K:Nat} (h:AddR W0 F b tv s x l w (some ⟨g,0,none⟩) n c xs W)
  (hb:W0.grownBy w none) (hF:∀ k,F k→W0.heap.size≤k∧k<w.heap.size) (hm:F b) (he:s.e=0) (hK:K=s.op.length) (hn:K<n) (hy:Sup (Im W0 (Ext F w W) b (.slice (some ⟨g,0,none⟩) n c)) W (Lev (xs.getD K (.slice none 0 0)) ys (levOf s K)))
  (h1:FrV W w1 v1 (ys++[x])):Upto F w (w1.setCell ⟨g,K,none⟩ v1)∧RefW W0 (Ext F w (w1.setCell ⟨g,K,none⟩ v1)) b (De.add s l) (w1.setCell ⟨g,K,none⟩ v1):=by
 have hbW:W0.grownBy W none:=h.upto.base hb (fun k hk=>(hF k hk).1)
 have hFW:=ext_own hb hF h.upto.size
 obtain ⟨k1,k2,k3⟩:=rows_put hbW hFW h.cell h.rows hK hn h.le h.own h.levs hy h.elem h1
 have hs3:=k1.size
 have eX:Ext (Ext F w W) W (w1.setCell ⟨g,K,none⟩ v1)=Ext F w (w1.setCell ⟨g,K,none⟩ v1):=funext fun k=>propext (Ext.trans h.upto.size hs3 k)
 rw[eX] at k3
 have hu:Upto F w (w1.setCell ⟨g,K,none⟩ v1):=h.upto.trans k1 (fun k hk hmu=>by
  rcases hmu with rfl|hmu
  ·exact hm
  ·rcases (h.rows.rown k hmu).1 with h'|h'
   ·exact h'
   ·omega)
 exact ⟨hu,hu.base hb (fun k hk=>(hF k hk).1),ext_own hb hF hu.size,.inl hm,_,_,by rw[e_add,he];exact k2,fun _=>k3⟩
theorem vals_kept {W w10:World} {v:Value} {g:Nat} {x:Value} {t:TypeId} (hg:W.grownBy w10 v.ownBlock) (hb:W.heap[g]?=some (.cells #[x] t (0,0))) (hv:v.ownBlock≠some g):Vals w10 (.slice (some ⟨g,0,none⟩) 1 1) [x] :=
 Vals.lit (xs:=[x]) ((hg.block g (blk_lt hb) (fun e=>hv e.symm)).trans hb)
theorem refAdd_core (W0:World) (F:Nat→Prop) (b:Nat) (s:De.St) (w:World) (x:Value) (l:List Nat) (tv rv:Value) (hb:W0.grownBy w none) (hF:∀ k,F k→W0.heap.size≤k∧k<w.heap.size) (hm:F b)
  (hc:w.heap[b]?=some (.cells #[tv,rv,.int .i64 0] 83 (0,0))) (he:s.e=0) (hR:RowsW W0 F b tv rv s w) (hx:Sup (Im W0 F b rv) w (fun W=>Bytes W x l∧Whole0 x)) (hsm:∀ k,(levOf s k).length≤1000) :
  Calls Tryz.prog 99 #[.pointer (some ⟨b,0,none⟩),x] w fun e w'=>e=.returned (.tuple #[])∧Upto F w w'∧RefW W0 (Ext F w w') b (De.add s l) w':=by
 have hE0:∀ k,Ext F w w k↔F k:=Ext.refl_iff F w
 have eE:Ext F w w=F:=funext fun k=>propext (hE0 k)
 obtain ⟨n0,xs0,hn0,ho0,hl0⟩:=hR.rows
 have hrv:∃ ra c,rv=.slice ra n0 c:=by
  obtain ⟨a,g,c,h,_⟩:=ownsRow_form ho0
  exact ⟨a,c,h⟩
 obtain ⟨ra0,c0,rfl⟩:=hrv
 have HS:Hid (AddR W0 F b tv s x l w ra0 n0 c0 xs0 w):=hid ⟨Upto.refl F w,hc,by rw[eE];exact hR,hn0,ho0,by rw[eE];exact hl0,by rw[eE];exact hx⟩
 have hxf:∃ xa xn xc,x=.slice xa xn xc:=by
  obtain ⟨_,a,_,_,c,h,_⟩:=hx.now.1
  exact ⟨a,_,c,h⟩
 obtain ⟨xa,xn,xc,rfl⟩:=hxf
 have htv:∃ ta tc,tv=.slice ta s.op.length tc:=by
  obtain ⟨a,sb,so,c,h,_⟩:=hR.tags.now.1
  rw[tagsOf_len] at h
  exact ⟨a,c,h⟩
 obtain ⟨ta,tc,rfl⟩:=htv
 have hd:=hR.deep
 obtain ⟨K,hK⟩:∃ K,K=s.op.length:=⟨_,rfl⟩
 rw[←hK] at HS hd
 have HK:=hid hK
 have HB:=hid hb
 have HFo:=hid hF
 have HSm:=hid hsm
 clear hc hR hx hn0 ho0 hl0 hE0 eE hK hb hF hsm
 go_enter Tryz.func99,Tryz.ntmps99
 go_wp2
 go_loopw [5] (fun _ W=>∃ ra n c xs,Hid (AddR W0 F b (.slice ta K tc) s (.slice xa xn xc) l w ra n c xs W)) (fun _ W=>30-rowsLen b W)
 case atStart=>exact ⟨_,_,_,_,HS⟩
 case round =>
  obtain ⟨ra,n,c,xs,H⟩:=hrel
  have q0:wr.cell? ⟨b,0,none⟩=some (.slice ta K tc):=cell_blk H.out.cell 0 rfl
  have q1:wr.cell? ⟨b,1,none⟩=some (.slice ra n c):=cell_blk H.out.cell 1 rfl
  have hn:=H.out.le
  by_cases hnk:n≤K
  ·have hnz:(n:Int)≤(K:Int):=by omega
   go_wp2
   go_quiet (fail)
   have H':Hid (AddR W0 F b (.slice ta K tc) s (.slice xa xn xc) l w ra n c xs (wr.drewN nq)):=hid (H.out.drewN nq)
   have hs:(wr.drewN nq).heap.size=wr.heap.size:=rfl
   rw[←hs] at *
   generalize wr.drewN nq=wq at *
   have HV:Hid (Vals (wq.alloc (.cells #[.slice none 0 0] 95)) (.slice (some ⟨wq.heap.size,0,none⟩) 1 1) [.slice none 0 0]):=hid (Vals.lit (xs:=[.slice none 0 0]) (alloc_at wq _))
   have HO:Hid ((wq.alloc (.cells #[.slice none 0 0] 95)).ownsRow 0 95 1 (.slice ra n c) n xs):=hid (H'.out.own.alloc _)
   have HI:=hid iV
   have q0':wq.cell? ⟨b,0,none⟩=some (.slice ta K tc):=cell_blk H'.out.cell 0 rfl
   have q1':wq.cell? ⟨b,1,none⟩=some (.slice ra n c):=cell_blk H'.out.cell 1 rfl
   go_wp2_with (at_builtin;refine wpList_appV (by rfl) (.tmp 20) (.tmp 21) 81 (by rfl) 0 95 (.slice none 0 0) 24 Tryz.underlying81 HI.out rfl (by decide) _ _ _ (by rfl) HO.out _ [.slice none 0 0] (by rfl) HV.out (Whole0.some _ _ _) (by simp[Value.oneCell']) (by simp;omega) (Nat.zero_le _) ?_;intro v2 w2 ho2 hg2 hv2;obtain ⟨a2,g2,c2,hf2,hX1,hX2,hX3,hX4⟩:=ownsRow_form ho2;clear hX1 hX2 hX3 hX4;subst hf2;have HN:=hid (H'.out.more HB.out HFo.out hm (by omega) ho2 hg2 hv2);have p0:=H'.out.at2 HFo.out hm hg2;have p1:=cell_blk p0 1 rfl;have p2:=free_blk p0 1;clear p0 ho2 hg2 hv2)
   go_roundw
   case rel=>exact ⟨_,_,_,_,HN⟩
   case measure =>
    rw[rowsLen_at (cell_blk HN.out.cell 1 rfl),rowsLen_at q1]
    omega
  ·have hnz:¬ (n:Int)≤(K:Int):=by omega
   obtain ⟨g,la,ln,lc,ys,rfl,hlv,hc1,hf1,hgl,hsy⟩:=H.out.inner HK.out (by omega)
   obtain ⟨hV,hE,hW0⟩:=hsy.now
   go_wp2
   go_quiet (fail)
   have H':Hid (AddR W0 F b (.slice ta K tc) s (.slice xa xn xc) l w (some ⟨g,0,none⟩) n c xs (wr.drewN nq)):=hid (H.out.drewN nq)
   have hs:(wr.drewN nq).heap.size=wr.heap.size:=rfl
   have HS':Hid (Sup (Im W0 (Ext F w (wr.drewN nq)) b (.slice (some ⟨g,0,none⟩) n c)) (wr.drewN nq) (Lev (xs.getD K (.slice none 0 0)) ys (levOf s K))):=hid (by rw[hlv];exact hsy.drewN nq)
   have hV':Vals (wr.drewN nq) (.slice la ln lc) ys:=hV
   have hE':Each (wr.drewN nq) ys (levOf s K):=hE.grown (grown_drewN (grown_refl _ _) _)
   have hc1':(wr.drewN nq).cell? ⟨g,K,none⟩=some (.slice la ln lc):=hc1
   have hf1':(wr.drewN nq).frozen? ⟨g,K,none⟩=false:=hf1
   rw[←hs] at hgl
   clear hV hE hc1 hf1 q0 q1 H hs hsy
   generalize wr.drewN nq=W at *
   have q0:W.cell? ⟨b,0,none⟩=some (.slice ta K tc):=cell_blk H'.out.cell 0 rfl
   have hcb:W.cell? ⟨b,1,none⟩=some (.slice (some ⟨g,0,none⟩) n c):=cell_blk H'.out.cell 1 rfl
   have hgb:g≠b:=(H'.out.rows.rown g rfl).2
   have hKS:∀ w',W.grownBy w' none→w'.cell? ⟨b,1,none⟩=some (.slice (some ⟨g,0,none⟩) n c):=fun w' hg'=>(World.cell?_of_block (hg'.block _ (World.block_lt_of_cell? W _ hcb) (by simp))).trans hcb
   have hKG:∀ w',W.grownBy w' none→w'.cell? ⟨g,K,none⟩=some (.slice la ln lc):=fun w' hg'=>(World.cell?_of_block (hg'.block _ hgl (by simp))).trans hc1'
   have e0:=hKG _ (grown_refl _ _)
   have e1:=hKG _ (grown_alloc (o:=.cells #[] 27) (grown_refl _ _))
   have e2:=hKG _ (grown_alloc (o:=.cells #[.slice xa xn xc] 27) (grown_refl _ _))
   have e3:=hKG _ (grown_alloc (o:=.cells #[.slice xa xn xc] 27) (grown_alloc (o:=.cells #[] 27) (grown_refl _ _)))
   have e4:=hKG _ (grown_alloc (o:=.cells #[] 27) (grown_alloc (o:=.cells #[.slice xa xn xc] 27) (grown_refl _ _)))
   have KS:=hid hKS
   have KG:=hid hKG
   have HV1:=hid hV'
   have HE1:=hid hE'
   have HW0:=hid hW0
   have hyl:ys.length=(levOf s K).length:=hE'.len
   have HYl:Hid (ys.length≤1000):=hid (by rw[hyl];exact HSm.out K)
   have HOne:=hid hE'.one
   have hx:=H'.out.elem.now
   have HI:=hid iV
   have gd:W.grownBy W.drew none:=grown_drewN (grown_refl _ _) 1
   have GD:=hid gd
   have FA1:Hid (FrV W (W.alloc (.cells #[] 27)).drew (.slice (some ⟨W.heap.size,0,none⟩) 0 0) []):=hid ⟨grown_drewN (FrV.first W).grown 1,(FrV.first W).own⟩
   have FA2:Hid (FrV W ((W.alloc (.cells #[] 27)).alloc (.cells #[.slice xa xn xc] 27)).drew (.slice (some ⟨W.heap.size,0,none⟩) 0 0) []):=hid ⟨grown_drewN ((FrV.first W).alloc _).grown 1,((FrV.first W).alloc _).own⟩
   have FA3:Hid (FrV W ((W.alloc (.cells #[.slice xa xn xc] 27)).alloc (.cells #[] 27)).drew (.slice (some ⟨W.heap.size+1,0,none⟩) 0 0) []):=hid (by
    have h1:=FrV.first (W.alloc (.cells #[.slice xa xn xc] 27))
    rw[alloc_size] at h1
    exact ⟨grown_drewN (grown_alloc (grown_alloc (grown_refl _ _) _) _) 1,own_base h1.own (by rw[alloc_size];omega)⟩)
   have P12:Hid (((W.alloc (.cells #[] 27)).alloc (.cells #[.slice xa xn xc] 27)).drew.heap[W.heap.size+1]?=some (.cells #[.slice xa xn xc] 27 (0,0))):=hid (by
    have:=alloc_at (W.alloc (.cells #[] 27)) (.cells #[.slice xa xn xc] 27)
    rwa [alloc_size] at this)
   have P21:Hid (((W.alloc (.cells #[.slice xa xn xc] 27)).alloc (.cells #[] 27)).drew.heap[W.heap.size]?=some (.cells #[.slice xa xn xc] 27 (0,0))):=hid (alloc_keep (alloc_at W _))
   clear hKS hKG hcb hV' hE' hW0 hc1' gd hx hyl
   go_wp2
   refine wp_region_held_drew (S:=(fun w'=>w'.cell? ⟨b,1,none⟩=some (.slice (some ⟨g,0,none⟩) n c))) (by kernel_rfl) (by first|(dsimp only;(first|exact KS.out _ GD.out|exact KS.out _ (grown_drewN (grown_alloc (grown_refl _ _) _) 1)|exact KS.out _ (grown_drewN (grown_alloc (grown_alloc (grown_refl _ _) _) _) 1)|exact KS.out _ K11.out|exact KS.out _ K10.out|exact KS.out _ (grown_alloc K10.out _)|(rw[World.cell?_setCell_far _ _ _ _ hgb];exact KS.out _ K11.out)))|(first|exact KS.out _ GD.out|exact KS.out _ (grown_drewN (grown_alloc (grown_refl _ _) _) 1)|exact KS.out _ (grown_drewN (grown_alloc (grown_alloc (grown_refl _ _) _) _) 1)|exact KS.out _ K11.out|exact KS.out _ K10.out|exact KS.out _ (grown_alloc K10.out _)|(rw[World.cell?_setCell_far _ _ _ _ hgb];exact KS.out _ K11.out))) (fun hHeld=>?_)
   refine wpAnyH_take (i:=0) (oi:=({ dst:=_,op:=_,type:=_,pos:=_,after:=_,guard:=_ }:Oper)) (v:=?_) rfl (by kernel_rfl) (by kernel_rfl) (by kernel_rfl) (fun _ _ _ h=>h) (Or.inl ⟨by rfl,?_⟩) (by assumption) ?_
   rotate_left
   focus (intro w hSw;(try dsimp only at hSw);go_simp;try with_reducible rfl)
   try simp only[Act.put,List.setIfInBounds_toArray,List.set_cons_zero,List.set_cons_succ]
   refine wpAnyH_take (i:=1) (oi:=({ dst:=_,op:=_,type:=_,pos:=_,after:=_,guard:=_ }:Oper)) (v:=?_) rfl (by kernel_rfl) (by kernel_rfl) (by kernel_rfl) (fun _ _ _ h=>h) (Or.inl ⟨by rfl,?_⟩) (by assumption) ?_
   rotate_left
   focus (intro w hSw;(try dsimp only at hSw);go_simp;try with_reducible rfl)
   try simp only[Act.put,List.setIfInBounds_toArray,List.set_cons_zero,List.set_cons_succ]
   refine wpAnyH_take (i:=2) (oi:=({ dst:=_,op:=_,type:=_,pos:=_,after:=_,guard:=_ }:Oper)) (v:=?_) rfl (by kernel_rfl) (by kernel_rfl) (by kernel_rfl) (fun _ _ _ h=>h) (Or.inl ⟨by rfl,?_⟩) (by assumption) ?_
   rotate_left
   focus (intro w hSw;(try dsimp only at hSw);go_simp;try with_reducible rfl)
   try simp only[Act.put,List.setIfInBounds_toArray,List.set_cons_zero,List.set_cons_succ]
   refine wpAnyH_take (i:=3) (oi:=({ dst:=_,op:=_,type:=_,pos:=_,after:=_,guard:=_ }:Oper)) (v:=?_) rfl (by kernel_rfl) (by kernel_rfl) (by kernel_rfl) (fun _ _ _ h=>h) (Or.inl ⟨by rfl,?_⟩) (by assumption) ?_
   rotate_left
   focus (intro w hSw;(try dsimp only at hSw);go_simp;try with_reducible rfl)
   try simp only[Act.put,List.setIfInBounds_toArray,List.set_cons_zero,List.set_cons_succ]
   refine wpAnyH_take (i:=4) (oi:=({ dst:=_,op:=_,type:=_,pos:=_,after:=_,guard:=_ }:Oper)) (v:=?_) rfl (by kernel_rfl) (by kernel_rfl) (by kernel_rfl) (fun _ _ _ h=>h) (Or.inl ⟨by rfl,?_⟩) (by assumption) ?_
   rotate_left
   focus (intro w hSw;(try dsimp only at hSw);go_simp;try with_reducible rfl)
   try simp only[Act.put,List.setIfInBounds_toArray,List.set_cons_zero,List.set_cons_succ]
   refine wpAnyH_take (i:=6) (oi:=({ dst:=_,op:=_,type:=_,pos:=_,after:=_,guard:=_ }:Oper)) (v:=?_) rfl (by kernel_rfl) (by kernel_rfl) (by kernel_rfl) (fun _ _ _ h=>h) (Or.inl ⟨by rfl,?_⟩) (by assumption) ?_
   rotate_left
   focus (intro w hSw;(try dsimp only at hSw);go_simp;try with_reducible rfl)
   try simp only[Act.put,List.setIfInBounds_toArray,List.set_cons_zero,List.set_cons_succ]
   refine wpAnyH_take (i:=7) (oi:=({ dst:=_,op:=_,type:=_,pos:=_,after:=_,guard:=_ }:Oper)) (v:=?_) rfl (by kernel_rfl) (by kernel_rfl) (by kernel_rfl) (fun _ _ _ h=>h) (Or.inl ⟨by rfl,?_⟩) (by assumption) ?_
   rotate_left
   focus (intro w hSw;(try dsimp only at hSw);go_simp;try with_reducible rfl)
   try simp only[Act.put,List.setIfInBounds_toArray,List.set_cons_zero,List.set_cons_succ]
   refine wpAnyH_take (i:=8) (oi:=({ dst:=_,op:=_,type:=_,pos:=_,after:=_,guard:=_ }:Oper)) (v:=?_) rfl (by kernel_rfl) (by kernel_rfl) (by kernel_rfl) (fun _ _ _ h=>h) (Or.inl ⟨by rfl,?_⟩) (by assumption) ?_
   rotate_left
   focus (intro w hSw;(try dsimp only at hSw);go_simp;try with_reducible rfl)
   try simp only[Act.put,List.setIfInBounds_toArray,List.set_cons_zero,List.set_cons_succ]
   refine wpAnyH_take (i:=9) (oi:=({ dst:=_,op:=_,type:=_,pos:=_,after:=_,guard:=_ }:Oper)) (v:=?_) rfl (by kernel_rfl) (by kernel_rfl) (by kernel_rfl) (fun _ _ _ h=>h) (Or.inl ⟨by rfl,?_⟩) (by assumption) ?_
   rotate_left
   focus (intro w hSw;(try dsimp only at hSw);go_simp;try with_reducible rfl)
   try simp only[Act.put,List.setIfInBounds_toArray,List.set_cons_zero,List.set_cons_succ]
   refine wpAnyH_take (i:=10) (oi:=({ dst:=_,op:=_,type:=_,pos:=_,after:=_,guard:=_ }:Oper)) (v:=?_) rfl (by kernel_rfl) (by kernel_rfl) (by kernel_rfl) (fun _ _ _ h=>h) (Or.inl ⟨by rfl,?_⟩) (by assumption) ?_
   rotate_left
   focus (intro w hSw;(try dsimp only at hSw);go_simp;try with_reducible rfl)
   try simp only[Act.put,List.setIfInBounds_toArray,List.set_cons_zero,List.set_cons_succ]
   refine wpAnyH_take (i:=11) (oi:=({ dst:=_,op:=_,type:=_,pos:=_,after:=_,guard:=_ }:Oper)) (v:=?_) rfl (by kernel_rfl) (by kernel_rfl) (by kernel_rfl) (fun _ _ _ h=>h) (Or.inl ⟨by rfl,?_⟩) (by assumption) ?_
   rotate_left
   focus (intro w hSw;(try dsimp only at hSw);go_simp;try with_reducible rfl)
   try simp only[Act.put,List.setIfInBounds_toArray,List.set_cons_zero,List.set_cons_succ]
   refine wpAnyH_take (i:=14) (oi:=({ dst:=_,op:=_,type:=_,pos:=_,after:=_,guard:=_ }:Oper)) (v:=?_) rfl (by kernel_rfl) (by kernel_rfl) (by kernel_rfl) (fun _ _ _ h=>h) (Or.inl ⟨by rfl,?_⟩) (by assumption) ?_
   rotate_left
   focus (intro w hSw;(try dsimp only at hSw);go_simp;try with_reducible rfl)
   try simp only[Act.put,List.setIfInBounds_toArray,List.set_cons_zero,List.set_cons_succ]
   repeat' first
    |(refine wpAnyH_done (by decide +kernel) ?_ _)
    |(refine wpAnyH_take (i:=17) (oi:=({ dst:=_,op:=_,type:=_,pos:=_,after:=_,guard:=_ }:Oper)) (v:=?_) rfl (by kernel_rfl) (by kernel_rfl) (by decide +kernel) (fun _ _ _ h=>h) (Or.inl ⟨by rfl,?_⟩) (by assumption) ?_;rotate_left;focus (intro w hSw;(try dsimp only at hSw);go_simp;try with_reducible rfl);try simp only[Act.put,List.setIfInBounds_toArray,List.set_cons_zero,List.set_cons_succ])
    |(refine wpAnyH_ready (rs:=[5,12,15]) (by decide +kernel) (by simp) ?_)
    |(refine wpAnyH_ready (rs:=[5,15]) (by decide +kernel) (by simp) ?_)
    |(refine wpAnyH_ready (rs:=[12,15]) (by decide +kernel) (by simp) ?_)
    |(refine wpAnyH_ready (rs:=[13,15]) (by decide +kernel) (by simp) ?_)
    |(refine wpAnyH_ready (rs:=[5,12]) (by decide +kernel) (by simp) ?_)
    |(refine wpAnyH_ready (rs:=[12]) (by decide +kernel) (by simp) ?_)
    |(refine wpAnyH_ready (rs:=[18]) (by decide +kernel) (by simp) ?_)
    |(refine wpAnyH_ready (rs:=[13]) (by decide +kernel) (by simp) ?_)
    |(refine wpAnyH_ready (rs:=[15]) (by decide +kernel) (by simp) ?_)
    |(refine wpAnyH_ready (rs:=[5]) (by decide +kernel) (by simp) ?_)
    |(refine wpAnyH_ready (rs:=[16]) (by decide +kernel) (by simp) ?_)
    |exact AllReadyH.nil
    |(refine AllReadyH.cons (o:=({ dst:=_,op:=_,type:=_,pos:=_,after:=_,guard:=_ }:Oper)) rfl (fun Kq hKq=>?_) ?_;(focus ((first|((first|(refine step_appV (by rfl) (.tmp 35) (.tmp 42) 95 (by rfl) W.heap.size 27 (.slice none 0 0) 24 Tryz.underlying95 (by kernel_rfl) rfl (by decide) _ 0 [] (by rfl) (by first|exact FA1.out.own|exact FA2.out.own|exact FA3.out.own) _ ys (by rfl) (HV1.out.grown (by first|exact FA1.out.grown|exact FA2.out.grown|exact FA3.out.grown)) HW0.out HOne.out (by have:=HYl.out;simp;omega) (by first|exact FA1.out.grown.size|exact FA2.out.grown.size|exact FA3.out.grown.size) ?_;intro v10 w10 ho10 hg10;have F10:Hid (FrV W w10 v10 ([]++ys)):=(by first|exact hid (FA1.out.step ho10 hg10)|exact hid (FA2.out.step ho10 hg10)|exact hid (FA3.out.step ho10 hg10));have G10:=hid hg10;have K10:Hid (W.grownBy w10 none):=hid F10.out.grown;clear ho10 hg10)|(refine step_appV (by rfl) (.tmp 43) (.tmp 45) 95 (by rfl) W.heap.size 27 (.slice none 0 0) 24 Tryz.underlying95 (by kernel_rfl) rfl (by decide) _ _ _ (by rfl) (by first|exact F10.out.own|exact (F10.out.alloc _).own) _ [.slice xa xn xc] (by rfl) (by first|exact Vals.lit (xs:=[.slice xa xn xc]) (alloc_at w10 _)|exact vals_kept G10.out P12.out (by intro e;have:=Option.some.inj (show some W.heap.size=some (W.heap.size+1) from e);omega)|exact vals_kept G10.out P21.out (by intro e;have:=Option.some.inj (show some (W.heap.size+1)=some W.heap.size from e);omega)) (Whole0.some _ _ _) (by intro u hu;rw[List.mem_singleton] at hu;subst hu;rfl) (by have:=HYl.out;simp;omega) (by first|exact F10.out.grown.size|exact (F10.out.alloc _).grown.size) ?_;intro v11 w11 ho11 hg11;obtain ⟨a11,g11,c11,hv11,hX1,hX2,hX3,hX4⟩:=ownsRow_form ho11;clear hX1 hX2 hX3 hX4;subst hv11;have F11:Hid (FrV W w11 _ (([]++ys)++[.slice xa xn xc])):=(by first|exact hid (F10.out.step ho11 hg11)|exact hid ((F10.out.alloc _).step ho11 hg11));have K11:Hid (W.grownBy w11 none):=hid F11.out.grown;have e11:=KG.out _ K11.out;have fz11:=(World.frozen?_of_block (K11.out.block _ hgl (by simp)) (a:=⟨g,K,none⟩)).trans hf1';clear ho11 hg11)))|go_simp);(refine hKq.out _ _ (by first|(dsimp only;(first|exact KS.out _ GD.out|exact KS.out _ (grown_drewN (grown_alloc (grown_refl _ _) _) 1)|exact KS.out _ (grown_drewN (grown_alloc (grown_alloc (grown_refl _ _) _) _) 1)|exact KS.out _ K11.out|exact KS.out _ K10.out|exact KS.out _ (grown_alloc K10.out _)|(rw[World.cell?_setCell_far _ _ _ _ hgb];exact KS.out _ K11.out)))|(first|exact KS.out _ GD.out|exact KS.out _ (grown_drewN (grown_alloc (grown_refl _ _) _) 1)|exact KS.out _ (grown_drewN (grown_alloc (grown_alloc (grown_refl _ _) _) _) 1)|exact KS.out _ K11.out|exact KS.out _ K10.out|exact KS.out _ (grown_alloc K10.out _)|(rw[World.cell?_setCell_far _ _ _ _ hgb];exact KS.out _ K11.out))) (fun hHeld=>?_));(clear hKq Kq);(try simp only[Act.put,List.setIfInBounds_toArray,List.set_cons_zero,List.set_cons_succ]))))
   all_goals (obtain ⟨k1,k2⟩:=H'.out.put HB.out HFo.out hm he HK.out (by omega) HS'.out (show FrV W w11 (.slice a11 (ys.length+1) c11) (ys++[.slice xa xn xc]) from F11.out);first|(show bodyPost _ _ _ _ _ _;go_wp2;exact ⟨rfl,k1,k2⟩)|exact ⟨rfl,.tuple #[],rfl,rfl,k1,k2⟩|exact ⟨rfl,.tuple #[],by kernel_rfl,rfl,k1,k2⟩)
section
variable {W0 w w2:World} {F:Nat→Prop} {b:Nat} {tv rv:Value} {s:De.St}
theorem RowsW.grow (h:RowsW W0 F b tv rv s w) (hb:W0.grownBy w none) (hF:∀ k,F k→W0.heap.size≤k∧k<w.heap.size) (hg:w.grownBy w2 none):RowsW W0 (Ext F w w2) b tv rv s w2:=by
 have hu:Upto (Mut b rv) w w2:=Upto.of_grown _ hg
 obtain ⟨n,xs,hn,ho,hl⟩:=h.rows
 exact ⟨fun k hk=>⟨.inl (h.rown k hk).1,(h.rown k hk).2⟩,h.deep,h.room,im_keep hb hF h.tags hu (fun _ _ e=>e),n,xs,hn,ho.kept hg (Classical.em _),fun k hk=>(hl k hk).keep hb hF hu (fun _ _ e=>e)⟩
theorem RefW.grow (h:RefW W0 F b s w) (hg:w.grownBy w2 none):RefW W0 (Ext F w w2) b s w2:=by
 obtain ⟨tv,rv,h1,h2⟩:=h.body
 exact ⟨grown_join h.base hg,ext_own h.base h.own hg.size,.inl h.mem,tv,rv,(hg.block b (h.own b h.mem).2 (by simp)).trans h1,fun he=>(h2 he).grow h.base h.own hg⟩
theorem RefW.err (h:RefW W0 F b s w) (n:Nat) (hn:n≠0):Upto F w (w.setCell ⟨b,2,none⟩ (.int .i64 n))∧RefW W0 (Ext F w (w.setCell ⟨b,2,none⟩ (.int .i64 n))) b { s with e:=n } (w.setCell ⟨b,2,none⟩ (.int .i64 n)):=by
 obtain ⟨tv,rv,h1,_⟩:=h.body
 have hs:(w.setCell ⟨b,2,none⟩ (.int .i64 n)).heap.size=w.heap.size:=setCell_size _ _ _
 have hu:Upto F w (w.setCell ⟨b,2,none⟩ (.int .i64 n)):=⟨rfl,rfl,rfl,by omega,fun k hk hmu=>Below.heap_setCell _ _ _ _ (fun e=>hmu (by rw[e];exact h.mem))⟩
 refine ⟨hu,hu.base h.base (fun k hk=>(h.own k hk).1),ext_own h.base h.own hu.size,.inl h.mem,tv,rv,?_,fun he=>absurd he hn⟩
 have:=setCell_heap (i:=2) h1 (.int .i64 n)
 simpa using this
end
theorem refAdd_new {W0 w w2:World} {F:Nat→Prop} {b:Nat} {s:De.St} {x:Value} {l:List Nat} (h:RefW W0 F b s w) (he:s.e=0) (hsm:∀ k,(levOf s k).length≤1000) (hg:w.grownBy w2 none)
  (hx:Sup (fun k=>w.heap.size≤k∧k<w2.heap.size) w2 (fun W=>Bytes W x l∧Whole0 x)) :
  Calls Tryz.prog 99 #[.pointer (some ⟨b,0,none⟩),x] w2 fun e w'=>e=.returned (.tuple #[])∧Upto F w w'∧RefW W0 (Ext F w w') b (De.add s l) w':=by
 have h2:=h.grow hg
 obtain ⟨tv,rv,h3,h4⟩:=h2.body
 have hR:=h4 he
 rw[he] at h3
 have hs:=hg.size
 have h0:=h.base.size
 refine (refAdd_core W0 (Ext F w w2) b s w2 x l tv rv h2.base h2.own h2.mem h3 he hR ?_ hsm).mono ?_
 ·refine hx.mono (fun k hk=>⟨.inl (.inr hk),fun e=>?_,fun e=>?_⟩) (ext_im_lt (F:=F) h.base h.own hs)
  ·have:=(h.own b h.mem).2;omega
  ·obtain ⟨tv1,rv1,h5,h6⟩:=h.body
   have h7:=(hg.block b (h.own b h.mem).2 (by simp)).trans h5
   rw[h3] at h7
   simp only[Option.some.injEq,Obj.cells.injEq,Array.mk.injEq,List.cons.injEq] at h7
   have h8:=(h.own k ((h6 he).rown k (by rw[←h7.1.2.1];exact e)).1).2
   omega
 ·rintro e w' ⟨rfl,k1,k2⟩
  have eX:Ext (Ext F w w2) w2 w'=Ext F w w':=funext fun k=>propext (Ext.trans hs k1.size k)
  rw[eX] at k2
  exact ⟨rfl,(Upto.of_grown F hg).trans k1 (fun k hk hf=>by
   rcases hf with hf|hf
   ·exact hf
   ·omega),k2⟩
def opd (s:De.St) (t:Nat):De.St:={ s with op:=(t,[]) :: s.op }
theorem tagsOf_opd (s:De.St) (t:Nat):tagsOf (opd s t)=tagsOf s++[(t:Int)]:=by simp[tagsOf,opd]
theorem levOf_opd (s:De.St) (t:Nat) (k:Nat) (hk:k≤s.op.length+1):levOf (opd s t) k=if k=s.op.length+1 then [] else levOf s k:=by
 obtain ⟨e,op,dn⟩:=s
 show levOf ⟨e,(t,[]) :: op,dn⟩ k=_
 unfold levOf
 simp only[List.reverse_cons] at hk ⊢
 by_cases h0:k=0
 ·subst h0;simp
 ·rw[if_neg h0,if_neg h0]
  by_cases hq:k=op.length+1
  ·subst hq
   simp[List.getD_eq_getElem?_getD]
  ·rw[if_neg hq]
   have:k-1<op.reverse.length:=by simp;omega
   simp only[List.getD_eq_getElem?_getD]
   rw[List.getElem?_append_left this]
section
variable {W0 w w1 w':World} {F:Nat→Prop} {b:Nat} {tv rv v1:Value} {s:De.St}
theorem rows_open {n t:Nat} {xs:List Value} (hb:W0.grownBy w none) (hF:∀ k,F k→W0.heap.size≤k∧k<w.heap.size)
  (hm:F b) (hR:RowsW W0 F b tv rv s w) (hn:n≤20) (hd:s.op.length+1≤16) (hn2:s.op.length+1<n)
  (ho:w.ownsRow 0 95 1 rv n xs)
  (hl:∀ k,k≤s.op.length→LevS (Im W0 F b rv) w (xs.getD k (.slice none 0 0)) (levOf s k))
  (h1:w.grownBy w1 none) (o1:w1.ownsRow w.heap.size 3 1 v1 (s.op.length+1) (cellsI (tagsOf s++[(t:Int)])))
  (hu1:Upto (Mut b rv) w1 w') (hr1:w'.ownsRow 0 95 1 rv n (xs.set (s.op.length+1) (.slice none 0 0))) :
  Upto (Mut b rv) w w'∧RowsW W0 (Ext F w w') b v1 rv (opd s t) w':=by
 have hu:Upto (Mut b rv) w w':=(Upto.of_grown _ h1).trans hu1 (fun _ _ h=>h)
 have hs1:=h1.size
 have hs2:=hu1.size
 have hlt:=ext_im_lt (b:=b) (rv:=rv) hb hF hu.size
 have hbl:=(hF b hm).2
 have hxl:xs.length=n:=by simpa using ho.1
 have hrl:∀ k,rv.ownBlock=some k→k<w.heap.size:=fun k hk=>(hF k (hR.rown k hk).1).2
 refine ⟨hu,fun k hk=>⟨.inl (hR.rown k hk).1,(hR.rown k hk).2⟩,by simp[opd];omega,(fun _=>by
  obtain ⟨a,g,c,h,_⟩:=ownsRow_form ho
  exact ⟨a,n,c,h,by simp[opd];omega⟩),?_,n,_,hn,hr1,fun k hk=>?_⟩
 ·rw[tagsOf_opd]
  have hnew:∀ k,v1.ownBlock=some k→w.heap.size≤k∧k<w1.heap.size:=fun k hk=>by
   rcases o1.2 with ⟨h,_⟩|⟨g,_,_,h,h2,h3,_⟩
   ·rw[h] at hk;exact absurd hk (by simp[Value.ownBlock])
   ·rw[h] at hk
    obtain rfl:g=k:=Option.some.inj hk
    exact ⟨h2,blk_lt h3⟩
  have o2:w'.ownsRow w.heap.size 3 1 v1 (s.op.length+1) (cellsI (tagsOf s++[(t:Int)])):=by
   refine ⟨o1.1,?_⟩
   rcases o1.2 with h|⟨g,cap,cur,rfl,h2,h3,h4⟩
   ·exact .inl h
   ·refine .inr ⟨g,cap,cur,rfl,h2,(hu1.block g (blk_lt h3) (fun hmu=>?_)).trans h3,h4⟩
    rcases hmu with rfl|hmu
    ·omega
    ·have:=hrl g hmu;omega
  have s1:=own_sup o2 hlt (fun k hk=>by
   have:=hnew k hk
   refine ⟨.inl (.inr ⟨this.1,by omega⟩),by omega,fun e=>by have:=hrl k e;omega⟩)
  exact s1.map fun W hW=>⟨Ints.own hW,Whole0.own hW⟩
 ·have hk':k≤s.op.length+1:=by simpa [opd] using hk
  rw[levOf_opd s t k hk',List.getD_eq_getElem?_getD,List.getElem?_set]
  by_cases hkK:k=s.op.length+1
  ·rw[if_pos hkK,if_pos hkK.symm,if_pos (by omega)]
   exact LevS.nil hlt
  ·rw[if_neg hkK,if_neg (Ne.symm hkK),←List.getD_eq_getElem?_getD]
   exact (hl k (by omega)).keep hb hF hu (fun _ _ h=>h)
end
theorem own_new {w w2:World} {x:Value} {l:List Nat} (h:FrW w w2 x l) (hl:∀ z∈l,z<256):Sup (fun k=>w.heap.size≤k∧k<w2.heap.size) w2 (fun W=>Bytes W x l∧Whole0 x):=by
 have s1:=own_sup h.own (F:=fun k=>w.heap.size≤k∧k<w2.heap.size) (fun k hk=>hk.2) (fun k hk=>by
  rcases h.own.2 with ⟨h1,_⟩|⟨g,_,_,h1,h2,h3,_⟩
  ·rw[h1] at hk;exact absurd hk (by simp[Value.ownBlock])
  ·rw[h1] at hk
   have e:g=k:=Option.some.inj hk
   have:=blk_lt h3
   omega)
 exact s1.map fun W hW=>⟨Bytes.own hW hl,Whole0.own hW⟩
theorem rwPut_any {W0 w:World} {F:Nat→Prop} {b:Nat} {s:De.St} (h:RefW W0 F b s w) (he:s.e=0) (hsm:∀ k,(levOf s k).length≤1000) (t:Nat) (ht:t<256) (bv:Value) (bs:List Nat) (hB:Bytes w bv bs) (h0:Whole0 bv) :
  Calls Tryz.prog 97 #[.pointer (some ⟨b,0,none⟩),.int .i64 t,bv] w fun e w'=>e=.returned (.tuple #[])∧Upto F w w'∧RefW W0 (Ext F w w') b (De.put s t bs) w':=by
 have HX:=hid h
 have HB:=hid hB
 have H0:=hid h0
 obtain ⟨tv,rv,hc,_⟩:=h.body
 have c2:=cell_blk hc 2 rfl
 have f2:=free_blk hc 2
 have hbl:=blk_lt hc
 have hlt:=hid hB.1
 obtain ⟨_,va,vsb,vso,vc,rfl,_⟩:=hB
 have HS:=hid hsm
 obtain ⟨n,hn⟩:∃ n,bs.length=n:=⟨_,rfl⟩
 rw[hn] at HB H0 ⊢
 have HN:=hid hn
 clear h h0 hc hsm
 by_cases hl:n≤65530
 ·have hz:¬ (65530:Int)<n:=by omega
  have eP:De.put s t bs=De.add s (Tl.elem t bs):=by unfold De.put;rw[if_neg (by rw[hn];omega)]
  rw[eP]
  clear hn eP
  go_enter Tryz.func97,Tryz.ntmps97
  go_wp2_with (first
   |(go_at_call 124;refine (refPut_any t ht _ bs _ HB.out H0.out (by rw[HN.out];omega)).mono ?_;rintro e w2 ⟨u,rfl,hF2⟩;have F2:=hid hF2;clear hF2)
   |(go_at_call 99;refine (refAdd_new HX.out he HS.out F2.out.grown (own_new F2.out (Tl.elem_lt ht hlt.out))).mono ?_;rintro e w3 ⟨rfl,k1,k2⟩;have K1:=hid k1;have K2:=hid k2;clear k1 k2))
  exact ⟨rfl,.tuple #[],by kernel_rfl,rfl,K1.out,K2.out⟩
 ·have hz:(65530:Int)<n:=by omega
  have eP:De.put s t bs={ s with e:=3 }:=by unfold De.put;rw[if_pos (by rw[hn];omega)]
  rw[eP]
  clear hn eP
  go_enter Tryz.func97,Tryz.ntmps97
  go_wp2
  have k:=HX.out.err 3 (by decide)
  exact ⟨rfl,.tuple #[],by kernel_rfl,rfl,k.1,k.2⟩
end Go.Proofs.YtjjbkpjjmbfdhaaGreatDoor
