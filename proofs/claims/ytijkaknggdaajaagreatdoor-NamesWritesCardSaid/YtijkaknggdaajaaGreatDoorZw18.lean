import Derived.Test.YtijkaknggdaajaaGreatDoorZw17
set_option linter.unusedVariables false
set_option linter.unusedSimpArgs false
set_option maxRecDepth 100000
set_option maxHeartbeats 1000000
namespace Go.Proofs.YtijkaknggdaajaaGreatDoor
open Go.Proofs.Tryz
open Lib (hid)
open Go.RowKit
def ImR (W0:World) (F:Nat->Prop) (b:Nat) (k:Nat):Prop:=Or0 W0 F k/\k≠b
structure RefR (W0:World) (F:Nat->Prop) (b:Nat) (s:De.Rd) (w:World):Prop where
 base:W0.grownBy w none
 own:∀ k,F k->W0.heap.size<=k/\k<w.heap.size
 mem:F b
 body:∃ lv,w.heap[b]?=some (.cells #[lv,.int .i64 (s.e:Nat)] 83 (0,0))/\LevS (ImR W0 F b) w lv (s.left.reverse++[s.top])
section
variable {W0 w w' w2:World} {F:Nat->Prop} {b:Nat} {s:De.Rd}
theorem RefR.other {G G':Nat->Prop} (h:RefR W0 F b s w) (hG:∀ k,G k->W0.heap.size<=k) (ht:Turn G G' w w') (ha:Apart G F):RefR W0 F b s w':=by
 obtain⟨lv,h1,h2⟩:=h.body;refine⟨ht.upto.base h.base hG,fun k hk=>⟨(h.own k hk).1,Nat.lt_of_lt_of_le (h.own k hk).2 ht.upto.size⟩,h.mem,lv,?_,h2.upto ht.upto (fun k hk hg=>?_)⟩
 ·rw[ht.upto.block b (h.own b h.mem).2 (fun hg=>ha b hg h.mem)];exact h1
 ·rcases hk.1 with hf|hl
  ·exact ha k hg hf
  ·have:=hG k hg;omega
theorem RefR.still (h:RefR W0 F b s w) (hg:w.grownBy w2 none):RefR W0 F b s w2 :=
 h.other (G:=fun _=>False) (G':=fun _=>False) (fun _ h=>h.elim) (Turn.of_grown hg) (fun _ h=>h.elim)
theorem RefR.wide {G:Nat->Prop} (h:RefR W0 F b s w) (hFG:∀ k,F k->G k) (hG:∀ k,G k->W0.heap.size<=k/\k<w.heap.size):RefR W0 G b s w:=by
 obtain⟨lv,h1,ys,hy⟩:=h.body;refine⟨h.base,hG,hFG b h.mem,lv,h1,ys,hy.mono (fun k hk=>⟨hk.1.imp (hFG k) id,hk.2⟩) (fun k hk=>?_)⟩;rcases hk.1 with hk|hk
 ·exact(hG k hk).2
 ·exact Nat.lt_of_lt_of_le hk h.base.size
theorem RefR.at_top (h:RefR W0 F b s w):∃ sb so lc ya yc,w.heap[b]?=some (.cells #[.slice (some ⟨sb,so,none⟩) (s.left.length+1) lc,.int .i64 (s.e:Nat)] 83 (0,0))/\s.left.length+1<=lc/\sb<w.heap.size /\
  w.cell? ⟨sb,so+s.left.length,none⟩=some (.slice ya s.top.length yc)/\Bytes w (.slice ya s.top.length yc) s.top/\Whole0 (.slice ya s.top.length yc):=by
 obtain⟨lv,h1,ys,hy⟩:=h.body;obtain⟨hV,hE,hW⟩:=hy.now;have hl:ys.length=s.left.length+1:=by rw[hE.len];simp
 obtain⟨y,k1,k2,k3⟩:=hE.at_ s.left.length (by simp);rw[List.getD_eq_getElem?_getD,List.getElem?_append_right (by simp)]at k2;simp only[List.length_reverse,Nat.sub_self,List.getElem?_cons_zero,Option.getD_some]at k2;obtain⟨a,sb,so,c,rfl,hc,ha,hcell⟩:=hV;rw[hl]at h1 hc ha;obtain⟨rfl,hsb⟩:=ha (by omega);have hcy:=hcell _ y k1;have k2':=k2;obtain⟨_,ya,_,_,yc,rfl,_⟩:=k2';exact⟨sb,so,c,ya,yc,h1,hc,hsb,hcy,k2,k3⟩
end
theorem zFZ {W0 w:World} {F:Nat->Prop} {b:Nat} {s:De.Rd} (h:RefR W0 F b s w) (hs:s.left.length<=100000) :
  Calls prog 84 #[.pointer (some ⟨b,0,none⟩)] w fun e w'=>e=.returned (.bool (De.more s))/\w.grownBy w' none:=by
 obtain⟨sb,so,lc,ya,yc,hc,hlc,hsb,hcy,hB,h0⟩:=h.at_top;have c0:=cell_blk hc 0 rfl;have c1:=cell_blk hc 1 rfl;obtain⟨N,hN⟩:∃ N,N=s.left.length:=⟨_,rfl⟩
 rw[<-hN]at c0 hcy hlc hs;have hw1:IntKind.i64.wrap (((N+1:Nat):Int)-1)=(N:Int):=by
  simp only[IntKind.wrap,IntKind.bits,IntKind.signed];simp;omega
 obtain⟨N1,hN1⟩:∃ N1,N1=N+1:=⟨_,rfl⟩
 rw[<-hN1]at c0 hw1;have hNi:(N:Int)<(N1:Int):=by omega
 have hN0:(0:Int)<=(N:Int):=by omega
 clear hN hN1;unfold De.more;by_cases he:s.e=0
 ·rw[he]at c1;cases ht:s.top with
  |nil =>
   rw[ht]at hcy;have hz:¬(0:Int)<((([]:List Nat).length:Nat):Int):=by simp
   generalize ([]:List Nat).length=zl at *;clear h hc hB h0 hs;go_enter func84,ntmps84
   go_wp2
   go_quiet (fail)
   go_wp2
   go_returns
   exact⟨by simp[he];omega,zAd (zAa _ _) _⟩
  |cons z zs =>
   rw[ht]at hcy;have hz:(0:Int)<(((z :: zs).length:Nat):Int):=by simp
   generalize hzz:(z :: zs).length=zl at *;clear h hc hB h0 hs;go_enter func84,ntmps84
   go_wp2
   go_quiet (fail)
   go_wp2
   go_returns
   exact⟨by simp[he];omega,zAd (zAa _ _) _⟩
 ·have hz:(((s.e:Nat):Int)==0)=false:=by simpa using he
  clear h hc hB h0 hs;go_enter func84,ntmps84
  go_wp2
  go_quiet (fail)
  go_wp2
  go_returns
  exact⟨by simp[he],zAd (zAa _ _) _⟩
theorem zHq {W0 w:World} {F:Nat->Prop} {b:Nat} {s:De.Rd} (h:RefR W0 F b s w) :
  Calls prog 42 #[.pointer (some ⟨b,0,none⟩)] w fun e w'=>e=.returned (.int .i64 (De.fin s:Nat))/\w.grownBy w' none:=by
 obtain⟨sb,so,lc,ya,yc,hc,hlc,hsb,hcy,hB,h0⟩:=h.at_top;have c0:=cell_blk hc 0 rfl;have c1:=cell_blk hc 1 rfl;have hfn:De.fin s=if s.e≠0 then s.e else if s.left≠[]then 24 else if s.top≠[]then 4 else 0:=rfl
 by_cases he:s.e=0
 ·rw[if_neg (by omega)]at hfn;rw[he]at c1;by_cases hlf:s.left=[]
  ·rw[if_neg (by simpa using hlf)]at hfn;rw[hlf]at c0 hcy;by_cases ht:s.top=[]
   ·rw[if_neg (by simpa using ht)]at hfn;rw[hfn];have hz:¬(0:Int)<(s.top.length:Int):=by rw[ht];simp
    have hcy':w.cell? ⟨sb,so,none⟩=some (.slice ya s.top.length yc):=by simpa using hcy
    have c0':w.cell? ⟨b,0,none⟩=some (.slice (some ⟨sb,so,none⟩) 1 lc):=c0;generalize s.top.length=tl at *;clear h hc hB h0 hcy c0 hfn he hlf ht;go_enter func42,ntmps42
    go_wp2
    go_returns
    exact⟨rfl,zAa _ _⟩
   ·rw[if_pos (by simpa using ht)]at hfn;rw[hfn];have hz:(0:Int)<(s.top.length:Int):=by have:=List.length_pos_iff.2 ht;omega
    have hcy':w.cell? ⟨sb,so,none⟩=some (.slice ya s.top.length yc):=by simpa using hcy
    have c0':w.cell? ⟨b,0,none⟩=some (.slice (some ⟨sb,so,none⟩) 1 lc):=c0;generalize s.top.length=tl at *;clear h hc hB h0 hcy c0 hfn he hlf ht;go_enter func42,ntmps42
    go_wp2
    go_returns
    exact⟨rfl,zAa _ _⟩
  ·rw[if_pos (by simpa using hlf)]at hfn;rw[hfn];have hz:(1:Int)<((s.left.length+1:Nat):Int):=by have:=List.length_pos_iff.2 hlf;omega
   generalize s.left.length+1=N1 at *;clear h hc hB h0 hcy hfn he hlf;go_enter func42,ntmps42
   go_wp2
   go_returns
   exact⟨rfl,zAa _ _⟩
 ·rw[if_pos he]at hfn;rw[hfn];have hz:(((s.e:Nat):Int))≠0:=by omega
  clear h hc hB h0 hcy hfn;go_enter func42,ntmps42
  go_wp2
  go_returns
  exact⟨rfl,zAa _ _⟩
theorem zFS {W0 w:World} {G:Nat->Prop} (v:Value) (l:List Nat) (hb:W0.grownBy w none) (hG:∀ k,G k->W0.heap.size<=k/\k<w.heap.size) (hx:Sup (Or0 W0 G) w (fun W=>Bytes W v l/\Whole0 v)) (hl:l.length<=1099511620000) :
  Calls prog 33 #[v] w fun e w'=>∃ b,e=.returned (.pointer (some ⟨b,0,none⟩))/\w.heap.size<=b/\w.grownBy w' none/\RefR W0 (Ext G w w') b (De.start l) w':=by
 have HX:=hid hx;obtain⟨hB,h0⟩:=hx.now;have HR:=hid (zCX v l w hB hl);have hB':=hB;obtain⟨_,va,vsb,vso,vc,rfl,_⟩:=hB';have HB:=hid hb;have HG:=hid hG;obtain⟨R,hR⟩:∃ R:Nat,R=(match Tl.levels l with
  |.error e=>e
  |.ok _=>0):=⟨_,rfl⟩
 have hst:De.start l=⟨R,l,[]⟩:=by rw[hR];rfl
 rw[hst];have HR2:Hid (Calls prog 58 #[.slice va l.length vc] w fun e w'=>∃ d:Int,e=.returned (.tuple #[.int .i64 d,.int .i64 (R:Nat)])/\w.grownBy w' none):=hid (HR.out.mono (fun e w' ⟨h1,h2⟩=>by
  cases hp:Tl.levels l with
  |error k=>rw[hp]at h1 hR;exact⟨0,by rw[h1,hR];rfl,h2⟩
  |ok d=>rw[hp]at h1 hR;exact⟨d,by rw[h1,hR];rfl,h2⟩))
 generalize hll:l.length=ll at *;clear hx hB h0 hst hR hb hG;go_enter func33,ntmps33
 go_wp2_with (go_at_call 58;refine HR2.out.mono ?_;rintro e w2 ⟨d,rfl,hg2⟩;have HG2:=hid hg2;clear hg2)
 go_returns
 have hg:w.grownBy ((w2.alloc (.cells #[.slice va ll vc] 33)).alloc (.cells #[.slice (some ⟨w2.heap.size,0,none⟩) 1 1,.int .i64 (R:Nat)] 83)) none:=zAc (zAc HG2.out _) _;have hsz:((w2.alloc (.cells #[.slice va ll vc] 33)).alloc (.cells #[.slice (some ⟨w2.heap.size,0,none⟩) 1 1,.int .i64 (R:Nat)] 83)).heap.size=w2.heap.size+2:=by rw[zAe,zAe]
 have h2:=HG2.out.size;have hown:=zAo HB.out HG.out hg.size;have hWs:=HB.out.size;refine⟨w2.heap.size+1,rfl,by omega,hg,zAV HB.out hg,hown,.inr ⟨by omega,by rw[hsz];omega⟩,_,alloc_at2 w2 _ _,[.slice va ll vc],?_⟩;have hlt:∀ k,ImR W0 (Ext G w ((w2.alloc (.cells #[.slice va ll vc] 33)).alloc (.cells #[.slice (some ⟨w2.heap.size,0,none⟩) 1 1,.int .i64 (R:Nat)] 83))) (w2.heap.size+1) k->k<((w2.alloc (.cells #[.slice va ll vc] 33)).alloc (.cells #[.slice (some ⟨w2.heap.size,0,none⟩) 1 1,.int .i64 (R:Nat)] 83)).heap.size:=fun k hk=>by
  rcases hk.1 with hk|hk
  ·exact(hown k hk).2
  ·rw[hsz];omega
 have hlit:((w2.alloc (.cells #[.slice va ll vc] 33)).alloc (.cells #[.slice (some ⟨w2.heap.size,0,none⟩) 1 1,.int .i64 (R:Nat)] 83)).heap[w2.heap.size]?=some (.cells #[.slice va ll vc] 33 (0,0)):=zAt (alloc_at w2 _);have s1:=zGB (Vals.lit (xs:=[.slice va ll vc]) hlit) hlt (fun _ k hk=>by
  obtain⟨a,n,c,e,rfl⟩:=hk;simp only[Value.slice.injEq,Option.some.injEq]at e;obtain⟨rfl,_⟩:=e;exact⟨.inl (.inr ⟨h2,by rw[hsz];show w2.heap.size<_;omega⟩),by show w2.heap.size≠_;omega⟩)
 have s2:=(HX.out.grown hg).mono (G:=ImR W0 (Ext G w ((w2.alloc (.cells #[.slice va ll vc] 33)).alloc (.cells #[.slice (some ⟨w2.heap.size,0,none⟩) 1 1,.int .i64 (R:Nat)] 83))) (w2.heap.size+1)) (fun k hk=>⟨hk.imp (fun h=>.inl h) id,by have:=HX.out.lt k hk;omega⟩) hlt;exact(s1.and s2).map fun W hW=>⟨hW.1,⟨⟨hW.2.1,hW.2.2⟩,trivial⟩,Whole0.some _ _ _⟩
theorem zG4 {w:World} {base:Nat} {e:TypeId} {v:Value} {n:Nat} {xs:List Value} (h:w.ownsRow base e 1 v n xs) {b:Nat} (hb:b<base):v.ownBlock≠some b:=fun e=>by
 rcases h.2 with⟨h1,_⟩|⟨g,_,_,h1,h2,_⟩
 ·rw[h1]at e;exact absurd e (by simp[Value.ownBlock])
 ·rw[h1]at e;have e2:g=b:=Option.some.inj e;omega
section
variable {W0 w w' w1 w2:World} {F:Nat->Prop} {b:Nat} {s:De.Rd}
theorem RefR.err (h:RefR W0 F b s w) (n:Nat):Upto F w (w.setCell ⟨b,1,none⟩ (.int .i64 n))/\RefR W0 (Ext F w (w.setCell ⟨b,1,none⟩ (.int .i64 n))) b { s with e:=n } (w.setCell ⟨b,1,none⟩ (.int .i64 n)):=by
 obtain⟨lv,h1,h2⟩:=h.body;have hs:(w.setCell ⟨b,1,none⟩ (.int .i64 n)).heap.size=w.heap.size:=zAk _ _ _;have hub:Upto (fun k=>k=b) w (w.setCell ⟨b,1,none⟩ (.int .i64 n)):=⟨rfl,rfl,rfl,by omega,fun k hk hmu=>Below.heap_setCell _ _ _ _ (fun e=>hmu e)⟩;have hu:Upto F w (w.setCell ⟨b,1,none⟩ (.int .i64 n)):=hub.mono (fun k _ hk=>by rw[hk];exact h.mem);have hR:RefR W0 F b { s with e:=n } (w.setCell ⟨b,1,none⟩ (.int .i64 n)):=by
  refine⟨hu.base h.base (fun k hk=>(h.own k hk).1),fun k hk=>by rw[hs];exact h.own k hk,h.mem,lv,?_,h2.upto hub (fun k hk=>hk.2)⟩;have:=zAm (i:=1) h1 (.int .i64 n);simpa using this
 exact⟨hu,hR.wide (fun k hk=>.inl hk) (zAo h.base h.own hu.size)⟩
theorem RefR.join {w5:World} {s':De.Rd} (hb:W0.grownBy w none) (hF:∀ k,F k->W0.heap.size<=k/\k<w.heap.size) (hu:Upto F w w5) (h:Upto F w5 w'/\RefR W0 (Ext F w5 w') b s' w'):Upto F w w'/\RefR W0 (Ext F w w') b s' w':=by
 have h1:=h.1.size;have h2:=hu.size;refine⟨hu.trans h.1 (fun k hk hf=>hf),h.2.wide (fun k hk=>?_) (zAo hb hF (by omega))⟩;rcases hk with hk|hk
 ·exact .inl hk
 ·exact .inr (by omega)
theorem RefR.step {lv:Value} {ys:List Value} {ya:Option Addr} {yc k:Nat} {v1:Value} (h:RefR W0 F b s w) (hc:w.heap[b]?=some (.cells #[lv,.int .i64 (s.e:Nat)] 83 (0,0)))
  (hy:Sup (ImR W0 F b) w (Lev lv ys (s.left.reverse++[s.top]))) (hyN:ys[s.left.length]?=some (.slice ya s.top.length yc)) (hk:k<=s.top.length)
  (h1:FrV w w1 v1 (ys.take s.left.length++[.slice (subA ya k yc) (s.top.length-k) (yc-k)])) :
  Upto F w (w1.setCell ⟨b,0,none⟩ v1)/\RefR W0 (Ext F w (w1.setCell ⟨b,0,none⟩ v1)) b { s with top:=s.top.drop k } (w1.setCell ⟨b,0,none⟩ v1):=by
 have hbl:=(h.own b h.mem).2;have hs1:=h1.grown.size;have hsz:(w1.setCell ⟨b,0,none⟩ v1).heap.size=w1.heap.size:=zAk _ _ _;have hub:Upto (fun k=>k=b) w (w1.setCell ⟨b,0,none⟩ v1):=⟨h1.grown.os,h1.grown.tape,h1.grown.output,by omega,fun k hk hmu=>by
  rw[Below.heap_setCell _ _ _ _ (fun e=>hmu e)];exact h1.grown.block k hk (by simp)⟩
 have hu:Upto F w (w1.setCell ⟨b,0,none⟩ v1):=hub.mono (fun k _ hk=>by rw[hk];exact h.mem);have hown:=zAo h.base h.own hu.size;have hlt:∀ k,ImR W0 (Ext F w (w1.setCell ⟨b,0,none⟩ v1)) b k->k<(w1.setCell ⟨b,0,none⟩ v1).heap.size:=fun k hk=>by
  rcases hk.1 with hk|hk
  ·exact(hown k hk).2
  ·exact Nat.lt_of_lt_of_le hk (Nat.le_trans h.base.size hu.size)
 have o1:=zAL (b:=b) (i:=0) (u:=v1) h1.own (zG4 h1.own hbl);have s1:=zCg o1 hlt (fun k hk=>by
  rcases h1.own.2 with⟨e,_⟩|⟨g,_,_,e,e2,e3,_⟩
  ·rw[e]at hk;exact absurd hk (by simp[Value.ownBlock])
  ·rw[e]at hk;obtain rfl:g=k:=Option.some.inj hk;have:=zAi e3;exact⟨.inl (.inr ⟨e2,by omega⟩),by omega⟩)
 have s2:=(hy.upto hub (fun k hk=>hk.2)).mono (G:=ImR W0 (Ext F w (w1.setCell ⟨b,0,none⟩ v1)) b) (fun k hk=>⟨hk.1.imp (fun h=>.inl h) id,hk.2⟩) hlt;refine⟨hu,hu.base h.base (fun k hk=>(h.own k hk).1),hown,.inl h.mem,v1,?_,_,(s1.and s2).map fun W hW=>⟨Vals.own hW.1,?_,h1.whole⟩⟩
 ·have:=zAm (i:=0) ((h1.grown.block b hbl (by simp)).trans hc) v1;simpa using this
 ·obtain⟨_,hE,_⟩:=hW.2;have t1:=hE.take s.left.length;rw[List.take_left' (by simp)]at t1;obtain⟨y,k1,k2,k3⟩:=hE.at_ s.left.length (by simp);rw[List.getD_eq_getElem?_getD,List.getElem?_append_right (by simp)]at k2;simp only[List.length_reverse,Nat.sub_self,List.getElem?_cons_zero,Option.getD_some]at k2;rw[hyN]at k1;obtain rfl:=Option.some.inj k1;exact t1.append (show Each W [_] [_]from⟨⟨k2.from k hk,k3.from k⟩,trivial⟩)
end
theorem zIG {W0 w:World} {F:Nat->Prop} {b:Nat} {s:De.Rd} (h:RefR W0 F b s w) (hs:s.left.length<=100000) (hl:s.top.length<=1000000) (tag:Int) (hno:(De.next s tag).2=none) :
  Calls prog 76 #[.pointer (some ⟨b,0,none⟩),.int .i64 tag] w fun e w'=>e=.returned (.tuple #[.slice none 0 0,.slice none 0 0,.bool false])/\Upto F w w'/\RefR W0 (Ext F w w') b (De.next s tag).1 w':=by
 have HX:=hid h;obtain⟨sb,so,lc,ya,yc,hc,hlc,hsb,hcy,hB,h0⟩:=h.at_top;have hbl:=zAi hc;have c0:=cell_blk hc 0 rfl;have c1:=cell_blk hc 1 rfl;have HC1:=hid (fun(W:World) (hg:w.grownBy W none)=>(World.cell?_of_block (hg.block _ hbl (by simp))).trans c1);have HF1:=hid (fun(W:World) (hg:w.grownBy W none)=>(World.frozen?_of_block (hg.block _ hbl (by simp))).trans (zAh hc 1));obtain⟨S2,hS2⟩:∃ S2,S2=(De.next s tag).1:=⟨_,rfl⟩
 rw[<-hS2];unfold De.next at hS2 hno;by_cases he:s.e=0
 ·rw[if_neg (by omega)]at hS2 hno;have HE:=hid he;rw[he]at c1 HC1;have HN:=hid (fun(W:World) (hg:w.grownBy W none)=>zBr _ s.top W (hB.grown hg) (by omega));obtain⟨N,hN⟩:∃ N,N=s.left.length:=⟨_,rfl⟩
  rw[<-hN]at c0 hcy hlc hs;have hw1:IntKind.i64.wrap (((N+1:Nat):Int)-1)=(N:Int):=by
   simp only[IntKind.wrap,IntKind.bits,IntKind.signed];simp;omega
  obtain⟨N1,hN1⟩:∃ N1,N1=N+1:=⟨_,rfl⟩
  rw[<-hN1]at c0 hw1;have hNi:(N:Int)<(N1:Int):=by omega
  have hN0:(0:Int)<=(N:Int):=by omega
  generalize s.top.length=tl at *;cases hf:Tl.first s.top with
  |error k =>
   rw[hf]at hS2 HN;simp only[NxR]at HN;simp only at hS2;have hk0:((k:Nat):Int)≠0:=by have:=De.first_err hf;omega
   have HS2:=hid hS2;clear h hc hB h0 hs hN hN1 hf he hno hS2 hl hlc;go_enter func76,ntmps76
   go_wp2
   go_quiet (fail)
   have hgq:w.grownBy (w.drewN nq) none:=zAd (zAa _ _) _;have HGq:=hid hgq;clear hgq;generalize w.drewN nq=wq at *;go_wp2_with (go_at_call 92;refine(HN.out _ HGq.out).mono ?_;rintro e w2 ⟨rfl,hg2⟩;have hg3:=zAb HGq.out hg2;have d1:=HC1.out _ hg3;have f1:=HF1.out _ hg3;have HG3:=hid hg3;clear hg2 hg3)
   go_returns
   rw[HS2.out];exact⟨rfl,RefR.join HX.out.base HX.out.own (Upto.of_grown F HG3.out) ((HX.out.still HG3.out).err k)⟩
  |ok p =>
   obtain⟨t,i,n⟩:=p;rw[hf]at hS2 HN hno;simp only[NxR]at HN;simp only at hS2 hno;by_cases ht:tag≠0/\(t:Int)≠tag
   ·rw[if_pos ht]at hS2;have HS2:=hid hS2;have t0:(tag != 0)=true:=by simpa using ht.1
    have t1:((t:Int) != tag)=true:=by simpa using ht.2
    clear ht;clear h hc hB h0 hs hN hN1 hf he hno hS2 hl hlc;go_enter func76,ntmps76
    go_wp2
    go_quiet (fail)
    have hgq:w.grownBy (w.drewN nq) none:=zAd (zAa _ _) _;have HGq:=hid hgq;clear hgq;generalize w.drewN nq=wq at *;go_wp2_with (go_at_call 92;refine(HN.out _ HGq.out).mono ?_;rintro e w2 ⟨rfl,hg2⟩;have hg3:=zAb HGq.out hg2;have d1:=HC1.out _ hg3;have f1:=HF1.out _ hg3;have HG3:=hid hg3;clear hg2 hg3)
    go_returns
    rw[HS2.out];exact⟨rfl,RefR.join HX.out.base HX.out.own (Upto.of_grown F HG3.out) ((HX.out.still HG3.out).err 5)⟩
   ·rw[if_neg ht]at hno;exact absurd hno (by simp)
 ·rw[if_pos he]at hS2;have HS2:=hid hS2;have hz:(((s.e:Nat):Int))≠0:=by omega
  clear h hc hB h0 hcy hno hS2;go_enter func76,ntmps76
  go_wp2
  go_returns
  rw[HS2.out];exact⟨rfl,Upto.refl F w,HX.out.wide (fun k hk=>.inl hk) (zAo HX.out.base HX.out.own (Nat.le_refl _))⟩
theorem RefR.keepSup {W0 w w1:World} {F:Nat->Prop} {b:Nat} {s:De.Rd} {P:World->Prop} (h:RefR W0 F b s w) (hP:Sup (ImR W0 F b) w P) (hg:w.grownBy w1 none) (v1:Value):Sup (ImR W0 (Ext F w (w1.setCell ⟨b,0,none⟩ v1)) b) (w1.setCell ⟨b,0,none⟩ v1) P:=by
 have hs1:=hg.size;have hsz:(w1.setCell ⟨b,0,none⟩ v1).heap.size=w1.heap.size:=zAk _ _ _;have hub:Upto (fun k=>k=b) w (w1.setCell ⟨b,0,none⟩ v1):=⟨hg.os,hg.tape,hg.output,by omega,fun k hk hmu=>by
  rw[Below.heap_setCell _ _ _ _ (fun e=>hmu e)];exact hg.block k hk (by simp)⟩
 have hown:=zAo h.base h.own hub.size;exact(hP.upto hub (fun k hk=>hk.2)).mono (fun k hk=>⟨hk.1.imp (fun h=>.inl h) id,hk.2⟩) (fun k hk=>by
  rcases hk.1 with hk|hk
  ·exact(hown k hk).2
  ·exact Nat.lt_of_lt_of_le hk (Nat.le_trans h.base.size hub.size))
end Go.Proofs.YtijkaknggdaajaaGreatDoor
