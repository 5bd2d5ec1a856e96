import Derived.Test.YtijkaknggdaajaaGreatDoorZw18
set_option linter.unusedVariables false
set_option linter.unusedSimpArgs false
set_option maxRecDepth 100000
namespace Go.Proofs.YtijkaknggdaajaaGreatDoor
open Go.Proofs.Tryz
open Lib (hid)
open Go.RowKit
set_option maxHeartbeats 0 in
theorem zHr {W0 w:World} {F:Nat->Prop} {b:Nat} {s:De.Rd} (h:RefR W0 F b s w) (hs:s.left.length<=2000) (hl:s.top.length<=1000000) (tag:Int) (he:s.e=0) {t i n:Nat} (hf:Tl.first s.top=.ok (t,i,n)) (htag:(t:Int)=tag) :
  Calls prog 76 #[.pointer (some ⟨b,0,none⟩),.int .i64 tag] w fun e w'=>∃ u v,e=.returned (.tuple #[u,v,.bool true])/\Upto F w w'/\RefR W0 (Ext F w w') b { s with top:=s.top.drop (i+n) } w' /\
   Sup (ImR W0 (Ext F w w') b) w' (fun W=>(Bytes W u ((s.top.drop i).take n)/\Whole0 u)/\Bytes W v (s.top.take (i+n))/\Whole0 v):=by
 have HX:=hid h;obtain⟨lv,hc,ys,hy⟩:=h.body;have hbl:=zAi hc;have HY:=hid hy;obtain⟨hV,hE,hW⟩:=hy.now;have hyl:ys.length=s.left.length+1:=by rw[hE.len];simp
 obtain⟨y,k1,k2,k3⟩:=hE.at_ s.left.length (by simp);rw[List.getD_eq_getElem?_getD,List.getElem?_append_right (by simp)]at k2;simp only[List.length_reverse,Nat.sub_self,List.getElem?_cons_zero,Option.getD_some]at k2;obtain⟨lc,hcap⟩:∃ lc,(∃ a,lv=.slice a (s.left.length+1) lc)/\s.left.length+1<=lc:=by
  obtain⟨a,sb,so,c,e,h1,h2,h3⟩:=hV;rw[hyl]at e h1;exact⟨c,⟨a,e⟩,h1⟩
 obtain⟨⟨la,rfl⟩,hlc⟩:=hcap;have hV':=hV;obtain⟨a,sb,so,c,e,h1,h2,h3⟩:=hV';simp only[Value.slice.injEq]at e;obtain⟨rfl,_,rfl⟩:=e;obtain⟨rfl,hsb⟩:=h2 (by omega);have hcy:=h3 _ y k1;have k2':=k2;obtain⟨hlt,ya,_,_,yc,rfl,hyc,_⟩:=k2';have hin:=(De.first_inv hlt hf).2.2.1;have HKB:=hid k2;have hkn:=(De.first_inv hlt hf).1;have t0:(tag != 0)=true:=by
  have:tag≠0:=fun e=>by
   rw[htag,e]at hkn;exact absurd hkn (by decide)
  simpa using this
 have t1:((t:Int) != tag)=false:=by simp[htag]
 clear hkn;have HK0:=hid k3;have HYN:=hid k1;obtain⟨k,hk⟩:∃ k,k=i+n:=⟨_,rfl⟩
 rw[<-hk]at hin;have c0:=cell_blk hc 0 rfl;have c1:=cell_blk hc 1 rfl;rw[he]at c1;have HC:=hid hc;have HE:=hid he;have HN:=hid (fun(W:World) (hg:w.grownBy W none)=>zBr _ s.top W (k2.grown hg) (by omega));rw[hf]at HN;simp only[NxR]at HN;rw[<-hk]at HN ⊢;obtain⟨N,hN⟩:∃ N,N=s.left.length:=⟨_,rfl⟩
 have HNN:=hid hN;rw[<-hN]at c0 hcy hlc hs k1 hyl;have hw1:IntKind.i64.wrap (((N+1:Nat):Int)-1)=(N:Int):=by
  simp only[IntKind.wrap,IntKind.bits,IntKind.signed];simp;omega
 obtain⟨N1,hN1⟩:∃ N1,N1=N+1:=⟨_,rfl⟩
 have HN1:=hid hN1;rw[<-hN1]at c0 hw1;have hNi:(N:Int)<(N1:Int):=by omega
 have hN0:(0:Int)<=(N:Int):=by omega
 have hNlc:(N:Int)<=(lc:Int):=by omega
 have hik:i<=k:=by omega
 have hkyc:k<=yc:=by omega
 have hki:(k:Int)<=(yc:Int):=by omega
 have hk0:(0:Int)<=(k:Int):=by omega
 have hktl:(k:Int)<=(s.top.length:Int):=by omega
 have hyT:(ys.take N).length=N:=by rw[List.length_take];omega
 have HYT:=hid hyT;have HV1:Hid (∀ W,w.grownBy W none->Vals W (.slice (some ⟨sb,so,none⟩) N lc) (ys.take N)):=hid (fun W hg=>(hV.to N (by omega)).grown hg);have HOne:Hid (∀ u∈ys.take N,u.oneCell'=true):=hid (fun u hu=>hE.one u (List.mem_of_mem_take hu));have HS:Hid (N<=2000):=hid hs;have HC0:=hid (fun(W:World) (hg:w.grownBy W none)=>(World.cell?_of_block (hg.block _ hbl (by simp))).trans c0);have HC1:=hid (fun(W:World) (hg:w.grownBy W none)=>(World.cell?_of_block (hg.block _ hbl (by simp))).trans c1);have HF0:=hid (fun(W:World) (hg:w.grownBy W none)=>(World.frozen?_of_block (hg.block _ hbl (by simp))).trans (zAh hc 0));have HFin:Hid (∀ w1 v1,FrV w w1 v1 (ys.take N++[.slice (subA ya k yc) (s.top.length-k) (yc-k)])->Upto F w (w1.setCell ⟨b,0,none⟩ v1)/\RefR W0 (Ext F w (w1.setCell ⟨b,0,none⟩ v1)) b { s with top:=s.top.drop k } (w1.setCell ⟨b,0,none⟩ v1)):=hid (fun w1 v1 h1=>h.step hc hy HYN.out (by omega) (by rw[<-hN];exact h1));have HSu:Hid (Sup (ImR W0 F b) w (fun W=>(Bytes W (.slice (subA ya i yc) (k-i) (yc-i)) ((s.top.drop i).take n)/\Whole0 (.slice (subA ya i yc) (k-i) (yc-i)))/\Bytes W (.slice ya k yc) (s.top.take k)/\Whole0 (.slice ya k yc))):=hid (hy.map fun W hW=>by
  obtain⟨y,q1,q2,q3⟩:=hW.2.1.at_ s.left.length (by simp);rw[List.getD_eq_getElem?_getD,List.getElem?_append_right (by simp)]at q2;simp only[List.length_reverse,Nat.sub_self,List.getElem?_cons_zero,Option.getD_some]at q2;rw[HYN.out]at q1;obtain rfl:=Option.some.inj q1;have b1:=(q2.to k (by omega)).from i hik
  have b0:=(q3.to k (by omega)).from i
  rw[show(s.top.take k).drop i=(s.top.drop i).take n by rw[List.drop_take,hk,Nat.add_sub_cancel_left]]at b1;exact⟨⟨b1,b0⟩,q2.to k (by omega),q3.to k (by omega)⟩)
 have HSu5:Hid (∀ w1 v1,w.grownBy w1 none->Sup (ImR W0 (Ext F w (w1.setCell ⟨b,0,none⟩ v1)) b) (w1.setCell ⟨b,0,none⟩ v1) (fun W=>(Bytes W (.slice (subA ya i yc) (k-i) (yc-i)) ((s.top.drop i).take n)/\Whole0 (.slice (subA ya i yc) (k-i) (yc-i)))/\Bytes W (.slice ya k yc) (s.top.take k)/\Whole0 (.slice ya k yc))):=hid (fun w1 v1 hg=>h.keepSup HSu.out hg v1);obtain⟨tl,htl⟩:∃ tl,tl=s.top.length:=⟨_,rfl⟩
 rw[<-htl]at HN hcy HFin hktl;clear h hc hV hE hW hy k2 k3 k1 hyl hN hN1 hk hlt hyT hs hl he hf h1 h2 h3 hlc hyc hin htl;clear htag;go_enter func76,ntmps76
 go_wp2
 go_quiet (fail)
 have hgq:w.grownBy (w.drewN nq) none:=zAd (zAa _ _) _;have HGq:=hid hgq;clear hgq;generalize w.drewN nq=wq at *;go_wp2_with (go_at_call 92;refine(HN.out _ HGq.out).mono ?_;rintro e W ⟨rfl,hg2⟩;have hg3:=zAb HGq.out hg2;have d0:=HC0.out _ hg3;have d1:=HC1.out _ hg3;have HG3:=hid hg3;clear hg2 hg3)
 have HV2:=hid (HV1.out _ HG3.out);have FA1:Hid (FrV W (W.alloc (.cells #[] 33)).drew (.slice (some ⟨W.heap.size,0,none⟩) 0 0) []):=hid ⟨zAd (FrV.first W).grown 1,(FrV.first W).own⟩;have FA2:Hid (FrV W ((W.alloc (.cells #[] 33)).alloc (.cells #[.slice (subA ya k yc) (tl-k) (yc-k)] 33)).drew (.slice (some ⟨W.heap.size,0,none⟩) 0 0) []):=hid ⟨zAd ((FrV.first W).alloc _).grown 1,((FrV.first W).alloc _).own⟩;have FA3:Hid (FrV W ((W.alloc (.cells #[.slice (subA ya k yc) (tl-k) (yc-k)] 33)).alloc (.cells #[] 33)).drew (.slice (some ⟨W.heap.size+1,0,none⟩) 0 0) []):=hid (by
  have h1:=FrV.first (W.alloc (.cells #[.slice (subA ya k yc) (tl-k) (yc-k)] 33));rw[zAe]at h1;exact⟨zAd (zAc (zAc (zAa _ _) _) _) 1,zBy h1.own (by rw[zAe];omega)⟩)
 have P12:Hid (((W.alloc (.cells #[] 33)).alloc (.cells #[.slice (subA ya k yc) (tl-k) (yc-k)] 33)).drew.heap[W.heap.size+1]?=some (.cells #[.slice (subA ya k yc) (tl-k) (yc-k)] 33 (0,0))):=hid (by
  have:=alloc_at (W.alloc (.cells #[] 33)) (.cells #[.slice (subA ya k yc) (tl-k) (yc-k)] 33);rwa [zAe]at this)
 have P21:Hid (((W.alloc (.cells #[.slice (subA ya k yc) (tl-k) (yc-k)] 33)).alloc (.cells #[] 33)).drew.heap[W.heap.size]?=some (.cells #[.slice (subA ya k yc) (tl-k) (yc-k)] 33 (0,0))):=hid (zAt (alloc_at W _));have e1:=HC0.out _ (zAc HG3.out (.cells #[] 33));have e2:=HC0.out _ (zAc HG3.out (.cells #[.slice (subA ya k yc) (tl-k) (yc-k)] 33));have e3:=HC0.out _ (zAc (zAc HG3.out (.cells #[] 33)) (.cells #[.slice (subA ya k yc) (tl-k) (yc-k)] 33));have e4:=HC0.out _ (zAc (zAc HG3.out (.cells #[.slice (subA ya k yc) (tl-k) (yc-k)] 33)) (.cells #[] 33));have KS:Hid (∀ w',W.grownBy w' none->w'.cell? ⟨b,1,none⟩=some (.int .i64 0)):=hid (fun w' hg=>HC1.out _ (zAb HG3.out hg));have KSet:Hid (∀ w' u,W.grownBy w' none->(w'.setCell ⟨b,0,none⟩ u).cell? ⟨b,1,none⟩=some (.int .i64 0)):=hid (fun w' u hg=>by
  have h1:=KS.out _ hg;have h2:=zAm (i:=0) (((zAb HG3.out hg).block b hbl (by simp)).trans HC.out) u;exact cell_blk h2 1 (by simp[HE.out]))
 go_wp2
 refine wp_region_held_drew (S:=(fun w'=>w'.cell? ⟨b,1,none⟩=some (.int .i64 0))) (by kernel_rfl) (by first|(dsimp only;(first|exact KS.out _ (zAd (zAa _ _) 1)|exact KS.out _ (zAd (zAc (zAa _ _) _) 1)|exact KS.out _ (zAd (zAc (zAc (zAa _ _) _) _) 1)|exact KS.out _ F11.out.grown|exact KS.out _ F10.out.grown|exact KS.out _ (zAc F10.out.grown _)|exact KSet.out _ _ F11.out.grown))|(first|exact KS.out _ (zAd (zAa _ _) 1)|exact KS.out _ (zAd (zAc (zAa _ _) _) 1)|exact KS.out _ (zAd (zAc (zAc (zAa _ _) _) _) 1)|exact KS.out _ F11.out.grown|exact KS.out _ F10.out.grown|exact KS.out _ (zAc F10.out.grown _)|exact KSet.out _ _ F11.out.grown)) (fun hHeld=>?_);refine wpAnyH_take (i:=0) (oi:=({ dst:=_,op:=_,type:=_,pos:=_,after:=_,guard:=_ }:Oper)) (v:=?_) rfl (by kernel_rfl) (by kernel_rfl) (by kernel_rfl) (fun _ _ _ h=>h) (Or.inl ⟨by rfl,?_⟩) (by assumption) ?_
 rotate_left
 focus (intro w hSw;(try dsimp only at hSw);go_simp;try with_reducible rfl)
 try simp only[Act.put,List.setIfInBounds_toArray,List.set_cons_zero,List.set_cons_succ]
 refine wpAnyH_take (i:=2) (oi:=({ dst:=_,op:=_,type:=_,pos:=_,after:=_,guard:=_ }:Oper)) (v:=?_) rfl (by kernel_rfl) (by kernel_rfl) (by kernel_rfl) (fun _ _ _ h=>h) (Or.inl ⟨by rfl,?_⟩) (by assumption) ?_
 rotate_left
 focus (intro w hSw;(try dsimp only at hSw);go_simp;try with_reducible rfl)
 try simp only[Act.put,List.setIfInBounds_toArray,List.set_cons_zero,List.set_cons_succ]
 refine wpAnyH_take (i:=3) (oi:=({ dst:=_,op:=_,type:=_,pos:=_,after:=_,guard:=_ }:Oper)) (v:=?_) rfl (by kernel_rfl) (by kernel_rfl) (by kernel_rfl) (fun _ _ _ h=>h) (Or.inl ⟨by rfl,?_⟩) (by assumption) ?_
 rotate_left
 focus (intro w hSw;(try dsimp only at hSw);go_simp;try with_reducible rfl)
 try simp only[Act.put,List.setIfInBounds_toArray,List.set_cons_zero,List.set_cons_succ]
 refine wpAnyH_take (i:=4) (oi:=({ dst:=_,op:=_,type:=_,pos:=_,after:=_,guard:=_ }:Oper)) (v:=?_) rfl (by kernel_rfl) (by kernel_rfl) (by kernel_rfl) (fun _ _ _ h=>h) (Or.inl ⟨by rfl,?_⟩) (by assumption) ?_
 rotate_left
 focus (intro w hSw;(try dsimp only at hSw);go_simp;try with_reducible rfl)
 try simp only[Act.put,List.setIfInBounds_toArray,List.set_cons_zero,List.set_cons_succ]
 refine wpAnyH_take (i:=6) (oi:=({ dst:=_,op:=_,type:=_,pos:=_,after:=_,guard:=_ }:Oper)) (v:=?_) rfl (by kernel_rfl) (by kernel_rfl) (by kernel_rfl) (fun _ _ _ h=>h) (Or.inl ⟨by rfl,?_⟩) (by assumption) ?_
 rotate_left
 focus (intro w hSw;(try dsimp only at hSw);go_simp;try with_reducible rfl)
 try simp only[Act.put,List.setIfInBounds_toArray,List.set_cons_zero,List.set_cons_succ]
 refine wpAnyH_take (i:=7) (oi:=({ dst:=_,op:=_,type:=_,pos:=_,after:=_,guard:=_ }:Oper)) (v:=?_) rfl (by kernel_rfl) (by kernel_rfl) (by kernel_rfl) (fun _ _ _ h=>h) (Or.inl ⟨by rfl,?_⟩) (by assumption) ?_
 rotate_left
 focus (intro w hSw;(try dsimp only at hSw);go_simp;try with_reducible rfl)
 try simp only[Act.put,List.setIfInBounds_toArray,List.set_cons_zero,List.set_cons_succ]
 refine wpAnyH_take (i:=8) (oi:=({ dst:=_,op:=_,type:=_,pos:=_,after:=_,guard:=_ }:Oper)) (v:=?_) rfl (by kernel_rfl) (by kernel_rfl) (by kernel_rfl) (fun _ _ _ h=>h) (Or.inl ⟨by rfl,?_⟩) (by assumption) ?_
 rotate_left
 focus (intro w hSw;(try dsimp only at hSw);go_simp;try with_reducible rfl)
 try simp only[Act.put,List.setIfInBounds_toArray,List.set_cons_zero,List.set_cons_succ]
 refine wpAnyH_take (i:=14) (oi:=({ dst:=_,op:=_,type:=_,pos:=_,after:=_,guard:=_ }:Oper)) (v:=?_) rfl (by kernel_rfl) (by kernel_rfl) (by kernel_rfl) (fun _ _ _ h=>h) (Or.inl ⟨by rfl,?_⟩) (by assumption) ?_
 rotate_left
 focus (intro w hSw;(try dsimp only at hSw);go_simp;try with_reducible rfl)
 try simp only[Act.put,List.setIfInBounds_toArray,List.set_cons_zero,List.set_cons_succ]
 refine wpAnyH_take (i:=15) (oi:=({ dst:=_,op:=_,type:=_,pos:=_,after:=_,guard:=_ }:Oper)) (v:=?_) rfl (by kernel_rfl) (by kernel_rfl) (by kernel_rfl) (fun _ _ _ h=>h) (Or.inl ⟨by rfl,?_⟩) (by assumption) ?_
 rotate_left
 focus (intro w hSw;(try dsimp only at hSw);go_simp;try with_reducible rfl)
 try simp only[Act.put,List.setIfInBounds_toArray,List.set_cons_zero,List.set_cons_succ]
 refine wpAnyH_take (i:=16) (oi:=({ dst:=_,op:=_,type:=_,pos:=_,after:=_,guard:=_ }:Oper)) (v:=?_) rfl (by kernel_rfl) (by kernel_rfl) (by kernel_rfl) (fun _ _ _ h=>h) (Or.inl ⟨by rfl,?_⟩) (by assumption) ?_
 rotate_left
 focus (intro w hSw;(try dsimp only at hSw);go_simp;try with_reducible rfl)
 try simp only[Act.put,List.setIfInBounds_toArray,List.set_cons_zero,List.set_cons_succ]
 repeat' first
  |(refine wpAnyH_done (by decide +kernel) ?_ _)
  |(refine wpAnyH_ready (rs:=[1,5,9,17]) (by decide +kernel) (by simp) ?_)
  |(refine wpAnyH_ready (rs:=[1,9,17]) (by decide +kernel) (by simp) ?_)
  |(refine wpAnyH_ready (rs:=[1,5,9]) (by decide +kernel) (by simp) ?_)
  |(refine wpAnyH_ready (rs:=[1,5,17]) (by decide +kernel) (by simp) ?_)
  |(refine wpAnyH_ready (rs:=[5,9,17]) (by decide +kernel) (by simp) ?_)
  |(refine wpAnyH_ready (rs:=[9,17]) (by decide +kernel) (by simp) ?_)
  |(refine wpAnyH_ready (rs:=[1,9]) (by decide +kernel) (by simp) ?_)
  |(refine wpAnyH_ready (rs:=[13,17]) (by decide +kernel) (by simp) ?_)
  |(refine wpAnyH_ready (rs:=[5,9]) (by decide +kernel) (by simp) ?_)
  |(refine wpAnyH_ready (rs:=[1,5]) (by decide +kernel) (by simp) ?_)
  |(refine wpAnyH_ready (rs:=[1,17]) (by decide +kernel) (by simp) ?_)
  |(refine wpAnyH_ready (rs:=[5,17]) (by decide +kernel) (by simp) ?_)
  |(refine wpAnyH_ready (rs:=[5]) (by decide +kernel) (by simp) ?_)
  |(refine wpAnyH_ready (rs:=[17]) (by decide +kernel) (by simp) ?_)
  |(refine wpAnyH_ready (rs:=[1]) (by decide +kernel) (by simp) ?_)
  |(refine wpAnyH_ready (rs:=[13]) (by decide +kernel) (by simp) ?_)
  |(refine wpAnyH_ready (rs:=[9]) (by decide +kernel) (by simp) ?_)
  |(refine wpAnyH_ready (rs:=[18]) (by decide +kernel) (by simp) ?_)
  |(refine wpAnyH_ready (rs:=[21]) (by decide +kernel) (by simp) ?_)
  |exact AllReadyH.nil
  |(refine AllReadyH.cons (o:=({ dst:=_,op:=_,type:=_,pos:=_,after:=_,guard:=_ }:Oper)) rfl (fun Kq hKq=>?_) ?_;(focus ((first|((first|(refine zBh (by rfl) (.tmp 54) (.tmp 65) 81 (by rfl) W.heap.size 33 (.slice none 0 0) 24 underlying81 (by kernel_rfl) rfl (by decide) _ 0 [] (by rfl) (by first|exact FA1.out.own|exact FA2.out.own|exact FA3.out.own) _ (ys.take N) (by rfl) (HV2.out.grown (by first|exact FA1.out.grown|exact FA2.out.grown|exact FA3.out.grown)) (Whole0.some _ _ _) HOne.out (by have:=HYT.out;have:=HS.out;omega) (by first|exact FA1.out.grown.size|exact FA2.out.grown.size|exact FA3.out.grown.size) ?_;intro v10 w10 ho10 hg10;have F10:Hid (FrV W w10 v10 (ys.take N)):=(by first|exact hid (FA1.out.step ho10 hg10)|exact hid (FA2.out.step ho10 hg10)|exact hid (FA3.out.step ho10 hg10));have G10:=hid hg10;have f10:=HC0.out _ (zAb HG3.out F10.out.grown);have f11:=HC0.out _ (zAb HG3.out (F10.out.alloc (.cells #[.slice (subA ya k yc) (tl-k) (yc-k)] 33)).grown);clear ho10 hg10)|(refine zBh (by rfl) (.tmp 66) (.tmp 70) 81 (by rfl) W.heap.size 33 (.slice none 0 0) 24 underlying81 (by kernel_rfl) rfl (by decide) _ _ _ (by rfl) (by first|exact F10.out.own|exact(F10.out.alloc _).own) _ [.slice (subA ya k yc) (tl-k) (yc-k)] (by rfl) (by first|exact Vals.lit (xs:=[.slice (subA ya k yc) (tl-k) (yc-k)]) (alloc_at w10 _)|exact zBg G10.out P12.out (by intro e;have:=Option.some.inj (show some W.heap.size=some (W.heap.size+1)from e);omega)|exact zBg G10.out P21.out (by intro e;have:=Option.some.inj (show some (W.heap.size+1)=some W.heap.size from e);omega)) (Whole0.some _ _ _) (by intro u hu;rw[List.mem_singleton]at hu;subst hu;rfl) (by have:=HYT.out;have:=HS.out;simp;omega) (by first|exact F10.out.grown.size|exact(F10.out.alloc _).grown.size) ?_;intro v11 w11 ho11 hg11;obtain⟨a11,g11,c11,hv11,hX1,hX2,hX3,hX4⟩:=zAl ho11;clear hX1 hX2 hX3 hX4;rw[show(ys.take N).length+([.slice (subA ya k yc) (tl-k) (yc-k)]:List Value).length=N1 by rw[HYT.out,HN1.out];rfl]at hv11;subst hv11;have F11:Hid (FrV W w11 (.slice a11 N1 c11) (ys.take N++[.slice (subA ya k yc) (tl-k) (yc-k)])):=(by first|exact hid (F10.out.step ho11 hg11)|exact hid ((F10.out.alloc _).step ho11 hg11));have e11:=HC0.out _ (zAb HG3.out F11.out.grown);have fz11:=HF0.out _ (zAb HG3.out F11.out.grown);clear ho11 hg11)))|go_simp);(refine hKq.out _ _ (by first|(dsimp only;(first|exact KS.out _ (zAd (zAa _ _) 1)|exact KS.out _ (zAd (zAc (zAa _ _) _) 1)|exact KS.out _ (zAd (zAc (zAc (zAa _ _) _) _) 1)|exact KS.out _ F11.out.grown|exact KS.out _ F10.out.grown|exact KS.out _ (zAc F10.out.grown _)|exact KSet.out _ _ F11.out.grown))|(first|exact KS.out _ (zAd (zAa _ _) 1)|exact KS.out _ (zAd (zAc (zAa _ _) _) 1)|exact KS.out _ (zAd (zAc (zAc (zAa _ _) _) _) 1)|exact KS.out _ F11.out.grown|exact KS.out _ F10.out.grown|exact KS.out _ (zAc F10.out.grown _)|exact KSet.out _ _ F11.out.grown)) (fun hHeld=>?_));(clear hKq Kq);(try simp only[Act.put,List.setIfInBounds_toArray,List.set_cons_zero,List.set_cons_succ]))))
  |(refine wpAnyH_take (i:=10) (oi:=({ dst:=_,op:=_,type:=_,pos:=_,after:=_,guard:=_ }:Oper)) (v:=?_) rfl (by kernel_rfl) (by kernel_rfl) (by decide +kernel) (fun _ _ _ h=>h) (Or.inl ⟨by rfl,?_⟩) (by assumption) ?_;rotate_left;focus (intro w hSw;(try dsimp only at hSw);go_simp;try with_reducible rfl);try simp only[Act.put,List.setIfInBounds_toArray,List.set_cons_zero,List.set_cons_succ])
  |(refine wpAnyH_take (i:=11) (oi:=({ dst:=_,op:=_,type:=_,pos:=_,after:=_,guard:=_ }:Oper)) (v:=?_) rfl (by kernel_rfl) (by kernel_rfl) (by decide +kernel) (fun _ _ _ h=>h) (Or.inl ⟨by rfl,?_⟩) (by assumption) ?_;rotate_left;focus (intro w hSw;(try dsimp only at hSw);go_simp;try with_reducible rfl);try simp only[Act.put,List.setIfInBounds_toArray,List.set_cons_zero,List.set_cons_succ])
  |(refine wpAnyH_take (i:=12) (oi:=({ dst:=_,op:=_,type:=_,pos:=_,after:=_,guard:=_ }:Oper)) (v:=?_) rfl (by kernel_rfl) (by kernel_rfl) (by decide +kernel) (fun _ _ _ h=>h) (Or.inl ⟨by rfl,?_⟩) (by assumption) ?_;rotate_left;focus (intro w hSw;(try dsimp only at hSw);go_simp;try with_reducible rfl);try simp only[Act.put,List.setIfInBounds_toArray,List.set_cons_zero,List.set_cons_succ])
  |(refine wpAnyH_take (i:=19) (oi:=({ dst:=_,op:=_,type:=_,pos:=_,after:=_,guard:=_ }:Oper)) (v:=?_) rfl (by kernel_rfl) (by kernel_rfl) (by decide +kernel) (fun _ _ _ h=>h) (Or.inl ⟨by rfl,?_⟩) (by assumption) ?_;rotate_left;focus (intro w hSw;(try dsimp only at hSw);go_simp;try with_reducible rfl);try simp only[Act.put,List.setIfInBounds_toArray,List.set_cons_zero,List.set_cons_succ])
  |(refine wpAnyH_take (i:=20) (oi:=({ dst:=_,op:=_,type:=_,pos:=_,after:=_,guard:=_ }:Oper)) (v:=?_) rfl (by kernel_rfl) (by kernel_rfl) (by decide +kernel) (fun _ _ _ h=>h) (Or.inl ⟨by rfl,?_⟩) (by assumption) ?_;rotate_left;focus (intro w hSw;(try dsimp only at hSw);go_simp;try with_reducible rfl);try simp only[Act.put,List.setIfInBounds_toArray,List.set_cons_zero,List.set_cons_succ])
 all_goals
  have HR5:=hid (HFin.out w11 (.slice a11 N1 c11) ⟨zAb HG3.out F11.out.grown,zBy F11.out.own HG3.out.size⟩);have HS5:=hid (HSu5.out w11 (.slice a11 N1 c11) (zAb HG3.out F11.out.grown));clear e1 e2 e3 e4 f10 f11 e11 fz11;generalize w11.setCell ⟨b,0,none⟩ (.slice a11 N1 c11)=w5 at *;go_wp2
  go_quiet (fail)
  go_wp2
  go_ret3
  exact⟨_,_,rfl,HR5.out.1.drewN _,HR5.out.2.still (zAd (zAa _ _) _),HS5.out.drewN _⟩
end Go.Proofs.YtijkaknggdaajaaGreatDoor
