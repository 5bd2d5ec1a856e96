import Derived.Test.YtjjbkpjjmbfdhaaGreatDoorZb00
import Derived.Test.YtjjbkpjjmbfdhaaGreatDoorZb11
import Derived.Test.YtjjbkpjjmbfdhaaGreatDoorZb13
import Derived.Test.YtjjbkpjjmbfdhaaGreatDoorZb14
import Derived.Test.YtjjbkpjjmbfdhaaGreatDoorZb16
import Derived.Test.YtjjbkpjjmbfdhaaGreatDoorZb17
import Derived.Test.YtjjbkpjjmbfdhaaGreatDoorZb23
import Derived.Test.YtjjbkpjjmbfdhaaGreatDoorZb24
import Derived.Test.YtjjbkpjjmbfdhaaGreatDoorZb25
import Derived.Test.YtjjbkpjjmbfdhaaGreatDoorZb26
import Derived.BigQuiet
import Derived.Handy
set_option linter.unusedVariables false
set_option linter.unusedSimpArgs false
set_option maxRecDepth 100000
set_option maxHeartbeats 16000000
namespace Go.Proofs.YtjjbkpjjmbfdhaaGreatDoor
open Lib (hid)
open Go.RowKit
def ValV (w:World) (v:Value) (x:De.Val):Prop:=∃ bv S,v=.agg #[.int .i64 x.kind,.int .i64 x.n,.bool x.is,bv,.string S]∧Bytes w bv x.b∧Whole0 bv∧strL S=x.t∧S.size≤1000
theorem ValV.grown {w w':World} {v:Value} {x:De.Val} (h:ValV w v x) (hg:w.grownBy w' none):ValV w' v x:=by
 obtain ⟨bv,S,h1,h2,h3⟩:=h
 exact ⟨bv,S,h1,h2.grown hg,h3⟩
def BoPost (w w':World) (r:Except Nat (Nat×List Nat)) (e:Ending):Prop:=w.grownBy w' none ∧
 match r with
 |.ok p=>∃ bv,e=.returned (.tuple #[.int .i64 (p.1:Nat),bv,.int .i64 0])∧Bytes w' bv p.2∧Whole0 bv
 |.error k=>∃ t bv,e=.returned (.tuple #[t,bv,.int .i64 (k:Nat)])
theorem whole_pos {w:World} {v:Value} {l:List Nat} (h:Bytes w v l) (hl:0<l.length):Whole0 v:=by
 obtain ⟨_,a,sb,so,c,rfl,_,h1,_⟩:=h
 rw[(h1 hl).1]
 exact Whole0.some _ _ _
theorem flags_pos (m:Nat):0<(Pt.flags m).length:=by
 unfold Pt.flags
 split
 ·simp
 ·split <;> simp
theorem loadS {w:World} {ad:Addr} {s:ByteArray} (h:w.cell? ad=some (.string s)):(Instr.loadAt 9 (.pointer (some ad))).run Tryz.prog w=.ok (.string s) w:=by simp[go_sem,h]
theorem loadI' {w:World} {ad:Addr} {z:Int} (h:w.cell? ad=some (.int .i64 z)):(Instr.loadAt 3 (.pointer (some ad))).run Tryz.prog w=.ok (.int .i64 z) w:=by simp[go_sem,h]
theorem refBody_any (v:Value) (x:De.Val) (w:World) (hv:ValV w v x) :
  Calls Tryz.prog 100 #[v] w fun e w'=>BoPost w w' (De.body x) e:=by
 obtain ⟨k,n,is,bl,tl⟩:=x
 obtain ⟨bv,S,rfl,hB,h0,hS,hsz⟩:=hv
 simp only at hB hS ⊢
 have HB:=hid hB
 have H0:=hid h0
 have HS:=hid hS
 have HZ:=hid hsz
 obtain ⟨_,va,vsb,vso,vc,rfl,_⟩:=hB
 have hbx:(w.alloc (.cells #[.int .i64 k,.int .i64 n,.bool is,.slice va bl.length vc,.string S] 86)).heap[w.heap.size]?=_:=alloc_at w _
 have HX:=hid hbx
 have hg1:w.grownBy (w.alloc (.cells #[.int .i64 k,.int .i64 n,.bool is,.slice va bl.length vc,.string S] 86)) none:=World.grownBy_alloc _ _ _
 have HG1:=hid hg1
 unfold De.body
 simp only
 clear h0 hS hsz hbx hg1
 by_cases e3:k=3
 ·subst e3
  rw[if_pos rfl]
  go_enter Tryz.func100,Tryz.ntmps100
  go_wp2_with (go_at_call 127;refine (refWPut_any n _).mono ?_;rintro e w2 ⟨u,rfl,hg2,hB2,h02⟩;have HG2:=hid (grown_trans HG1.out hg2);have HB2:=hid hB2;have H02:=hid h02;clear hg2 hB2 h02)
  go_ret3
  exact ⟨HG2.out,_,rfl,HB2.out,H02.out⟩
 rw[if_neg e3]
 have z3:((k:Int)==3)=false:=by simpa using e3
 by_cases e4:k=4
 ·subst e4
  rw[if_pos rfl]
  go_enter Tryz.func100,Tryz.ntmps100
  go_wp2_with (go_at_call 127;refine (refWPut_any n _).mono ?_;rintro e w2 ⟨u,rfl,hg2,hB2,h02⟩;have HG2:=hid (grown_trans HG1.out hg2);have HB2:=hid hB2;have H02:=hid h02;clear hg2 hB2 h02)
  go_ret3
  exact ⟨HG2.out,_,rfl,HB2.out,H02.out⟩
 rw[if_neg e4]
 have z4:((k:Int)==4)=false:=by simpa using e4
 by_cases e5:k=5
 ·subst e5
  rw[if_pos rfl]
  cases is
  ·go_enter Tryz.func100,Tryz.ntmps100
   go_wp2
   go_ret3
   exact ⟨grown_alloc HG1.out _,_,rfl,Bytes.lit (l:=[0]) (alloc_at2 _ _ _) (by simp),Whole0.some _ _ _⟩
  ·go_enter Tryz.func100,Tryz.ntmps100
   go_wp2
   go_ret3
   exact ⟨grown_alloc HG1.out _,_,rfl,Bytes.lit (l:=[255]) (alloc_at2 _ _ _) (by simp),Whole0.some _ _ _⟩
 rw[if_neg e5]
 have z5:((k:Int)==5)=false:=by simpa using e5
 by_cases e6:k=6
 ·subst e6
  rw[if_pos rfl]
  go_enter Tryz.func100,Tryz.ntmps100
  go_wp2
  go_quiet (fail)
  go_wp2
  go_ret3
  exact ⟨grown_drewN HG1.out _,_,rfl,HB.out.grown (grown_drewN HG1.out _),H0.out⟩
 rw[if_neg e6]
 have z6:((k:Int)==6)=false:=by simpa using e6
 by_cases e7:k=7
 ·subst e7
  rw[if_pos rfl]
  have HA:=hid (fun W=>refAsked_any S n (by have:=HZ.out;omega) W)
  rw[HS.out] at HA
  obtain ⟨q,hq⟩:∃ q,q=Pt.asked tl n:=⟨_,rfl⟩
  rw[←hq] at HA ⊢
  clear hq
  obtain ⟨R,hR⟩:∃ R:Except Nat (Nat×List Nat),R=(if q=0 then .ok (12,tl) else .error q):=⟨_,rfl⟩
  rw[←hR]
  have HR:=hid hR
  clear hR
  go_enter Tryz.func100,Tryz.ntmps100
  go_wp2
  refine bo_region _ w.heap.size S n q _ _ _ rfl rfl (fun w=>by simp[go_sem]) (fun w=>by simp[go_sem]) (fun W hg=>loadS (cell_blk ((hg.block _ (blk_lt HX.out) (by simp)).trans HX.out) 4 rfl)) (fun W hg=>loadI' (cell_blk ((hg.block _ (blk_lt HX.out) (by simp)).trans HX.out) 1 rfl)) (fun W=>HA.out W) ⟨rfl,rfl,rfl,Nat.le_refl _,fun _ _ _=>rfl⟩ (fun us w4 hg4 h2 h3=>?_)
  have h2':us 2=.int .i64 12:=h2
  simp only[fill_cons,fill_nil,Act.put,List.setIfInBounds_toArray,List.set_cons_succ,List.set_cons_zero,h2']
  have H3:=hid h3
  have HG4:=hid hg4
  clear h2 h2' h3 hg4
  generalize us 3=u3 at *
  go_wp2
  go_ret3
  rw[HR.out]
  refine ⟨grown_trans HG1.out HG4.out,?_⟩
  by_cases hq0:q=0
  ·subst hq0
   rw[if_pos rfl]
   exact ⟨_,rfl,by rw[←HS.out];exact H3.out.1,H3.out.2⟩
  ·rw[if_neg hq0]
   exact ⟨_,_,rfl⟩
 rw[if_neg e7]
 have z7:((k:Int)==7)=false:=by simpa using e7
 by_cases e8:k=8
 ·subst e8
  rw[if_pos rfl]
  have HP:=hid (fun W=>refParse_any S W (by have:=HZ.out;omega))
  rw[HS.out] at HP
  cases hp:Od.parse tl with
  |error q =>
   rw[hp] at HP
   have hq0:(q:Int)≠0:=by have:=De.parse_err hp;omega
   clear hp
   go_enter Tryz.func100,Tryz.ntmps100
   go_wp2_with (go_at_call 129;refine (HP.out _).mono ?_;rintro e w2 ⟨rfl,hg2⟩;have HG2:=hid (grown_trans HG1.out hg2);clear hg2)
   go_ret3
   exact ⟨HG2.out,_,_,rfl⟩
  |ok l =>
   rw[hp] at HP
   have hr:=(Od.parse_ok hp).2
   clear hp
   go_enter Tryz.func100,Tryz.ntmps100
   go_wp2_with (first
    |(go_at_call 129;refine (HP.out _).mono ?_;rintro e w2 ⟨u,rfl,hF2⟩;have HG2:=hid (grown_trans HG1.out hF2.grown);have HI2:=hid hF2.ints;clear hF2)
    |(go_at_call 130;refine (refOPut_any _ l _ HI2.out hr).mono ?_;rintro e w3 ⟨u3,rfl,hF3⟩;have HG3:=hid (grown_trans HG2.out hF3.grown);have HO3:=hid hF3.own;clear hF3))
   go_ret3
   exact ⟨HG3.out,_,rfl,Bytes.own HO3.out (De.oput_lt l),Whole0.own HO3.out⟩
 rw[if_neg e8]
 have z8:((k:Int)==8)=false:=by simpa using e8
 by_cases e9:k=9
 ·subst e9
  rw[if_pos rfl]
  by_cases hn0:n<0
  ·rw[if_pos (.inl hn0)]
   go_enter Tryz.func100,Tryz.ntmps100
   go_wp2
   go_ret3
   exact ⟨HG1.out,_,_,rfl⟩
  ·by_cases hn1:253402300799<n
   ·rw[if_pos (.inr hn1)]
    go_enter Tryz.func100,Tryz.ntmps100
    go_wp2
    go_ret3
    exact ⟨HG1.out,_,_,rfl⟩
   ·rw[if_neg (by omega)]
    obtain ⟨t,rfl⟩:=Int.eq_ofNat_of_zero_le (by omega:0≤n)
    have ht:t≤253402300799:=by omega
    rw[Int.toNat_natCast]
    have hr:=(Cal.of_right ht).1
    go_enter Tryz.func100,Tryz.ntmps100
    go_wp2_with (first
     |(go_at_call 132;refine (refOf_any t ht _).mono ?_;rintro e w2 ⟨rfl,hg2⟩;have HG2:=hid (grown_trans HG1.out hg2);clear hg2)
     |(go_at_call 131;refine (refMText_any _ hr _).mono ?_;rintro e w3 ⟨u3,rfl,hF3⟩;have HG3:=hid (grown_trans HG2.out hF3.grown);have HO3:=hid hF3.own;clear hF3))
    go_ret3
    exact ⟨HG3.out,_,rfl,Bytes.own HO3.out (De.ctext_lt hr),Whole0.own HO3.out⟩
 rw[if_neg e9]
 have z9:((k:Int)==9)=false:=by simpa using e9
 by_cases hn0:n<0
 ·rw[if_pos (.inl hn0)]
  go_enter Tryz.func100,Tryz.ntmps100
  go_wp2
  go_ret3
  exact ⟨HG1.out,_,_,rfl⟩
 ·by_cases hn1:32767<n
  ·rw[if_pos (.inr hn1)]
   go_enter Tryz.func100,Tryz.ntmps100
   go_wp2
   go_ret3
   exact ⟨HG1.out,_,_,rfl⟩
  ·rw[if_neg (by omega)]
   obtain ⟨t,rfl⟩:=Int.eq_ofNat_of_zero_le (by omega:0≤n)
   have ht:t<32768:=by omega
   rw[Int.toNat_natCast]
   go_enter Tryz.func100,Tryz.ntmps100
   go_wp2_with (go_at_call 133;refine (refFlags_any t ht _).mono ?_;rintro e w2 ⟨u,rfl,hB2,hg2⟩;have HG2:=hid (grown_trans HG1.out hg2);have HB2:=hid hB2;clear hg2 hB2)
   go_ret3
   exact ⟨HG2.out,_,rfl,HB2.out,whole_pos HB2.out (flags_pos t)⟩
theorem RefW.after {W0 w w2 w':World} {F:Nat→Prop} {b:Nat} {s':De.St} (hg:w.grownBy w2 none) (h:Upto (Ext F w w2) w2 w'∧RefW W0 (Ext (Ext F w w2) w2 w') b s' w'):Upto F w w'∧RefW W0 (Ext F w w') b s' w':=by
 obtain ⟨k1,k2⟩:=h
 have eX:Ext (Ext F w w2) w2 w'=Ext F w w':=funext fun k=>propext (Ext.trans hg.size k1.size k)
 rw[eX] at k2
 exact ⟨(Upto.of_grown F hg).trans k1 (fun k hk hf=>by
  rcases hf with hf|hf
  ·exact hf
  ·omega),k2⟩
theorem body_tag {v:De.Val} {t:Nat} {l:List Nat} (h:De.body v=.ok (t,l)):t<256:=by
 have pr:∀ {a c:Nat} {x y:List Nat},(Except.ok (a,x):Except Nat (Nat×List Nat))=.ok (c,y)→a=c:=fun e=>(Prod.mk.inj (Except.ok.inj e)).1
 unfold De.body at h
 repeat' split at h
 all_goals first
  |(have:=pr h;omega)
  |exact absurd h (by simp)
theorem refDo_err {W0 w:World} {F:Nat→Prop} {b:Nat} {s:De.St} (h:RefW W0 F b s w) (he:s.e≠0) (v:Value) (x:De.Val) (hv:ValV w v x) :
  Calls Tryz.prog 47 #[.pointer (some ⟨b,0,none⟩),v] w fun e w'=>e=.returned (.tuple #[])∧Upto F w w'∧RefW W0 (Ext F w w') b s w':=by
 have HX:=hid h
 obtain ⟨tv,rv,hc,_⟩:=h.body
 have c2:=cell_blk hc 2 rfl
 have hbl:=blk_lt hc
 obtain ⟨k,n,is,bl,tl⟩:=x
 obtain ⟨bv,S,rfl,hB,_⟩:=hv
 obtain ⟨_,va,vsb,vso,vc,rfl,_⟩:=hB
 simp only
 have hz:((s.e:Nat):Int)≠0:=by omega
 have hg:w.grownBy (w.alloc (.cells #[.int .i64 k,.int .i64 n,.bool is,.slice va bl.length vc,.string S] 86)) none:=World.grownBy_alloc _ _ _
 have HG:=hid hg
 have c2':=World.cell?_alloc_some w ⟨b,2,none⟩ (.cells #[.int .i64 k,.int .i64 n,.bool is,.slice va bl.length vc,.string S] 86) (by rw[c2];rfl)
 rw[c2] at c2'
 clear h hc hg
 go_enter Tryz.func47,Tryz.ntmps47
 go_wp2
 go_returns
 exact ⟨rfl,Upto.of_grown F HG.out,HX.out.grow HG.out⟩
theorem refDo_plain {W0 w:World} {F:Nat→Prop} {b:Nat} {s:De.St} (h:RefW W0 F b s w) (he:s.e=0) (hsm:∀ k,(levOf s k).length≤1000) (v:Value) (x:De.Val) (hv:ValV w v x) (k1:x.kind≠1) (k2:x.kind≠2) (k11:x.kind≠11) :
  Calls Tryz.prog 47 #[.pointer (some ⟨b,0,none⟩),v] w fun e w'=>e=.returned (.tuple #[])∧Upto F w w'∧RefW W0 (Ext F w w') b (De.step s x) w':=by
 have HX:=hid h
 have HSm:=hid hsm
 have hst:De.step s x=De.plainV s x:=by unfold De.step;rw[if_neg (by omega),if_neg k1,if_neg k2,if_neg k11]
 rw[hst]
 obtain ⟨tv,rv,hc,_⟩:=h.body
 have c2:=cell_blk hc 2 rfl
 have f2:=free_blk hc 2
 have hbl:=blk_lt hc
 have z1:((x.kind:Int)==1)=false:=by simpa using k1
 have z2:((x.kind:Int)==2)=false:=by simpa using k2
 have z11:((x.kind:Int)==11)=false:=by simpa using k11
 have HV:=hid hv
 obtain ⟨bv,S,rfl,hB,_⟩:=hv
 obtain ⟨_,va,vsb,vso,vc,rfl,_⟩:=hB
 have hg:w.grownBy (w.alloc (.cells #[.int .i64 x.kind,.int .i64 x.n,.bool x.is,.slice va x.b.length vc,.string S] 86)) none:=World.grownBy_alloc _ _ _
 have HG:=hid hg
 have c2':=World.cell?_alloc_some w ⟨b,2,none⟩ (.cells #[.int .i64 x.kind,.int .i64 x.n,.bool x.is,.slice va x.b.length vc,.string S] 86) (by rw[c2];rfl)
 rw[c2,he] at c2'
 have hR:=refBody_any _ x _ (HV.out.grown hg)
 have HR:=hid hR
 generalize x.kind=kk at *
 generalize x.n=nn at *
 generalize x.is=ii at *
 generalize x.b.length=bb at *
 unfold De.plainV
 cases hp:De.body x with
 |error q =>
  have hq0:(q:Int)≠0:=by have:=De.body_err hp;omega
  rw[hp] at HR
  clear h hc hg hst hsm hp hR k1 k2 k11
  go_enter Tryz.func47,Tryz.ntmps47
  go_wp2_with (go_at_call 100;refine HR.out.mono ?_;rintro e w2 ⟨hg2,t,u,rfl⟩;have hg3:=grown_trans HG.out hg2;have HG2:=hid hg3;have d2:=(World.cell?_of_block (hg3.block _ hbl (by simp))).trans c2;have e2:=(World.frozen?_of_block (hg3.block _ hbl (by simp))).trans f2;clear hg2 hg3)
  go_returns
  exact ⟨rfl,RefW.after HG2.out ((HX.out.grow HG2.out).err q (by omega))⟩
 |ok p =>
  obtain ⟨t,l⟩:=p
  have ht:=body_tag hp
  rw[hp] at HR
  clear h hc hg hst hsm hp hR k1 k2 k11
  go_enter Tryz.func47,Tryz.ntmps47
  go_wp2_with (first
   |(go_at_call 100;refine HR.out.mono ?_;rintro e w2 ⟨hg2,u,rfl,hB2,h02⟩;have HG2:=hid (grown_trans HG.out hg2);have HB2:=hid hB2;have H02:=hid h02;clear hg2 hB2 h02)
   |(go_at_call 97;refine (rwPut_any (HX.out.grow HG2.out) he HSm.out t ht _ l HB2.out H02.out).mono ?_;rintro e w3 ⟨rfl,k1,k2⟩;have K1:=hid k1;have K2:=hid k2;clear k1 k2))
  go_returns
  exact ⟨rfl,RefW.after HG2.out ⟨K1.out,K2.out⟩⟩
theorem vals_ints {w:World} {v:Value} {l:List Int} (h:Ints w v l):Vals w v (cellsI l):=by
 obtain ⟨a,sb,so,c,rfl,h1,h2,h3⟩:=h
 refine ⟨a,sb,so,c,by rw[cellsI_len],by rw[cellsI_len];exact h1,by rw[cellsI_len];exact h2,fun j u hj=>?_⟩
 have hjl:j<l.length:=by rw[←cellsI_len];exact (List.getElem?_eq_some_iff.1 hj).1
 rw[cellsI_at l j hjl] at hj
 rw[←Option.some.inj hj]
 exact h3 j hjl
theorem RefW.wide {W0 w:World} {F G:Nat→Prop} {b:Nat} {s:De.St} (h:RefW W0 F b s w) (hFG:∀ k,F k→G k) (hG:∀ k,G k→W0.heap.size≤k∧k<w.heap.size):RefW W0 G b s w:=by
 obtain ⟨tv,rv,h1,h2⟩:=h.body
 refine ⟨h.base,hG,hFG b h.mem,tv,rv,h1,fun he=>?_⟩
 have hR:=h2 he
 have hi:∀ k,Im W0 F b rv k→Im W0 G b rv k:=fun k hk=>⟨hk.1.imp (hFG k) id,hk.2⟩
 have hlt:∀ k,Im W0 G b rv k→k<w.heap.size:=fun k hk=>by
  rcases hk.1 with hk|hk
  ·exact (hG k hk).2
  ·exact Nat.lt_of_lt_of_le hk h.base.size
 obtain ⟨n,xs,hn,ho,hl⟩:=hR.rows
 exact ⟨fun k hk=>⟨hFG k (hR.rown k hk).1,(hR.rown k hk).2⟩,hR.deep,hR.room,hR.tags.mono hi hlt,n,xs,hn,ho,fun k hk=>by
  obtain ⟨ys,hy⟩:=hl k hk
  exact ⟨ys,hy.mono hi hlt⟩⟩
theorem RefW.still {W0 w w2:World} {F:Nat→Prop} {b:Nat} {s:De.St} (h:RefW W0 F b s w) (hg:w.grownBy w2 none):RefW W0 F b s w2 :=
 h.other (G:=fun _=>False) (G':=fun _=>False) (fun _ h=>h.elim) (Turn.of_grown hg) (fun _ h=>h.elim)
theorem nil_elem {F:Nat→Prop} {w:World} (hF:∀ k,F k→k<w.heap.size):Sup F w (fun W=>Bytes W (.slice none 0 0) []∧Whole0 (.slice none 0 0)) :=
 ⟨hF,fun w' _=>⟨⟨by simp,none,0,0,0,rfl,Nat.le_refl _,fun h=>absurd h (by simp),fun j hj=>absurd hj (by simp)⟩,fun n c e=>by cases e;exact ⟨rfl,rfl⟩⟩⟩
theorem refMade_grow (t:Int) (w:World):Calls Tryz.prog 95 #[.int .i64 t] w fun e w'=>e=.returned (.bool (Tl.made t))∧w.grownBy w' none :=
 (refMade_any t w).mono (fun e w' ⟨h1,h2⟩=>⟨h1,by rw[h2];exact grown_refl _ _⟩)
theorem refDo_open1 {W0 w:World} {F:Nat→Prop} {b:Nat} {s:De.St} (h:RefW W0 F b s w) (he:s.e=0) (v:Value) (x:De.Val) (hv:ValV w v x) (k1:x.kind=1) (hno:Tl.made x.n=false∨16≤s.op.length) :
  Calls Tryz.prog 47 #[.pointer (some ⟨b,0,none⟩),v] w fun e w'=>e=.returned (.tuple #[])∧Upto F w w'∧RefW W0 (Ext F w w') b (De.step s x) w':=by
 have HX:=hid h
 have hst:De.step s x=De.opn s x.n:=by unfold De.step;rw[if_neg (by omega),if_pos k1]
 rw[hst]
 obtain ⟨tv,rv,hc,hRw⟩:=h.body
 have c2:=cell_blk hc 2 rfl
 have f2:=free_blk hc 2
 have hbl:=blk_lt hc
 obtain ⟨bv,S,rfl,hB,h0,_⟩:=hv
 rw[k1]
 obtain ⟨_,va,vsb,vso,vc,rfl,_⟩:=hB
 have hg:w.grownBy (w.alloc (.cells #[.int .i64 1,.int .i64 x.n,.bool x.is,.slice va x.b.length vc,.string S] 86)) none:=World.grownBy_alloc _ _ _
 have HG:=hid hg
 have c2':=(World.cell?_of_block (hg.block _ hbl (by simp))).trans c2
 have f2':=(World.frozen?_of_block (hg.block _ hbl (by simp))).trans f2
 rw[he] at c2'
 have hR:=hRw he
 obtain ⟨ta,tc,rfl⟩:∃ ta tc,tv=.slice ta s.op.length tc:=by
  obtain ⟨a,sb,so,c,h,_⟩:=hR.tags.now.1
  rw[tagsOf_len] at h
  exact ⟨a,c,h⟩
 have c0:=cell_blk hc 0 rfl
 unfold De.opn
 by_cases hm:Tl.made x.n=false
 ·rw[if_pos hm]
  have HM:=hid (refMade_grow x.n (w.alloc (.cells #[.int .i64 1,.int .i64 x.n,.bool x.is,.slice va x.b.length vc,.string S] 86)))
  rw[hm] at HM
  clear h hc hg hst k1 hno hRw hR
  go_enter Tryz.func47,Tryz.ntmps47
  go_wp2_with (go_at_call 95;refine HM.out.mono ?_;rintro e w2 ⟨rfl,hg2⟩;have hg3:=grown_trans HG.out hg2;have HG2:=hid hg3;have d2:=(World.cell?_of_block (hg3.block _ hbl (by simp))).trans c2;have e2:=(World.frozen?_of_block (hg3.block _ hbl (by simp))).trans f2;have d0:=(World.cell?_of_block (hg3.block _ hbl (by simp))).trans c0;clear hg2 hg3)
  go_returns
  exact ⟨rfl,RefW.after HG2.out ((HX.out.grow HG2.out).err 5 (by omega))⟩
 ·rw[if_neg hm]
  have hK:16≤s.op.length:=by
   rcases hno with h|h
   ·exact absurd h hm
   ·exact h
  rw[if_pos hK]
  have hKi:(16:Int)≤(s.op.length:Int):=by omega
  have HM:=hid (refMade_grow x.n (w.alloc (.cells #[.int .i64 1,.int .i64 x.n,.bool x.is,.slice va x.b.length vc,.string S] 86)))
  rw[show Tl.made x.n=true by simpa using hm] at HM
  clear h hc hg hst k1 hno hRw hR hm
  go_enter Tryz.func47,Tryz.ntmps47
  go_wp2_with (go_at_call 95;refine HM.out.mono ?_;rintro e w2 ⟨rfl,hg2⟩;have hg3:=grown_trans HG.out hg2;have HG2:=hid hg3;have d2:=(World.cell?_of_block (hg3.block _ hbl (by simp))).trans c2;have e2:=(World.frozen?_of_block (hg3.block _ hbl (by simp))).trans f2;have d0:=(World.cell?_of_block (hg3.block _ hbl (by simp))).trans c0;clear hg2 hg3)
  go_returns
  exact ⟨rfl,RefW.after HG2.out ((HX.out.grow HG2.out).err 6 (by omega))⟩
theorem iI:((Tryz.prog.info? 3).map (fun i=>(i.zero,i.size,i.bytes)))=some (some (.int .i64 0),1,8):=by kernel_rfl
theorem open_mid {W0:World} {F:Nat→Prop} {b:Nat} {tv:Value} {s:De.St} {x:Value} {l:List Nat} {w:World} {g n c:Nat} {xs:List Value} {W w1:World} (h:AddR W0 F b tv s x l w (some ⟨g,0,none⟩) n c xs W) (hg:W.grownBy w1 none) (v:Value) :
  (w1.setCell ⟨b,0,none⟩ v).heap[b]?=some (.cells #[v,.slice (some ⟨g,0,none⟩) n c,.int .i64 0] 83 (0,0))∧(w1.setCell ⟨b,0,none⟩ v).ownsRow 0 95 1 (.slice (some ⟨g,0,none⟩) n c) n xs ∧
   Upto (Mut b (.slice (some ⟨g,0,none⟩) n c)) w1 (w1.setCell ⟨b,0,none⟩ v):=by
 have hgb:g≠b:=(h.rows.rown g rfl).2
 refine ⟨?_,own_setCell (h.own.kept hg (Classical.em _)) (fun e=>hgb (Option.some.inj e)),rfl,rfl,rfl,by rw[setCell_size];exact Nat.le_refl _,fun k hk hmu=>Below.heap_setCell _ _ _ _ (fun e=>hmu (.inl e))⟩
 have:=setCell_heap (i:=0) ((hg.block b (blk_lt h.cell) (by simp)).trans h.cell) v
 simpa using this
theorem open_end {W0:World} {F:Nat→Prop} {b:Nat} {tv:Value} {s:De.St} {x:Value} {l:List Nat} {w:World} {g n c t:Nat} {xs:List Value} {W w1 w5:World} {v1:Value} (h:AddR W0 F b tv s x l w (some ⟨g,0,none⟩) n c xs W)
  (hb:W0.grownBy w none) (hF:∀ k,F k→W0.heap.size≤k∧k<w.heap.size) (hm:F b) (he:s.e=0) (hd:s.op.length<16) (hn:s.op.length+1<n) (h1:FrI W w1 v1 (tagsOf s++[(t:Int)]))
  (hb5:w5.heap[b]?=some (.cells #[v1,.slice (some ⟨g,0,none⟩) n c,.int .i64 0] 83 (0,0))) (ho5:w5.ownsRow 0 95 1 (.slice (some ⟨g,0,none⟩) n c) n xs) (hu5:Upto (Mut b (.slice (some ⟨g,0,none⟩) n c)) w1 w5) :
  Upto F w (w5.setCell ⟨g,s.op.length+1,none⟩ (.slice none 0 0))∧RefW W0 (Ext F w (w5.setCell ⟨g,s.op.length+1,none⟩ (.slice none 0 0))) b (opd s t) (w5.setCell ⟨g,s.op.length+1,none⟩ (.slice none 0 0)):=by
 have hgb:g≠b:=(h.rows.rown g rfl).2
 have hbW:W0.grownBy W none:=h.upto.base hb (fun k hk=>(hF k hk).1)
 have hFW:=ext_own hb hF h.upto.size
 have hu6:Upto (Mut b (.slice (some ⟨g,0,none⟩) n c)) w1 (w5.setCell ⟨g,s.op.length+1,none⟩ (.slice none 0 0)) :=
  hu5.trans ⟨rfl,rfl,rfl,by rw[setCell_size];exact Nat.le_refl _,fun k hk hmu=>Below.heap_setCell _ _ _ _ (fun e=>hmu (.inr (by rw[e];rfl)))⟩ (fun _ _ h=>h)
 have o1:=h1.own
 rw[show (tagsOf s++[(t:Int)]).length=s.op.length+1 by rw[List.length_append,tagsOf_len];rfl] at o1
 obtain ⟨k1,k3⟩:=rows_open hbW hFW (.inl hm) h.rows h.le (by omega) hn h.own h.levs h1.grown o1 hu6 (own_put ho5 hn _)
 have hs3:=k1.size
 have eX:Ext (Ext F w W) W (w5.setCell ⟨g,s.op.length+1,none⟩ (.slice none 0 0))=Ext F w (w5.setCell ⟨g,s.op.length+1,none⟩ (.slice none 0 0)):=funext fun k=>propext (Ext.trans h.upto.size hs3 k)
 rw[eX] at k3
 have hu:Upto F w (w5.setCell ⟨g,s.op.length+1,none⟩ (.slice none 0 0)):=h.upto.trans k1 (fun k hk hmu=>by
  rcases hmu with rfl|hmu
  ·exact hm
  ·rcases (h.rows.rown k hmu).1 with h'|h'
   ·exact h'
   ·omega)
 refine ⟨hu,hu.base hb (fun k hk=>(hF k hk).1),ext_own hb hF hu.size,.inl hm,_,_,?_,fun _=>k3⟩
 rw[Below.heap_setCell _ _ _ _ (Ne.symm hgb),hb5]
 simp[opd,he]
theorem own_at {w:World} {base:Nat} {e:TypeId} {g n c:Nat} {xs:List Value} (h:w.ownsRow base e 1 (.slice (some ⟨g,0,none⟩) n c) n xs) {K:Nat} (hK:K<n):(∃ u,w.cell? ⟨g,K,none⟩=some u)∧w.frozen? ⟨g,K,none⟩=false:=by
 rcases h.2 with ⟨h1,_⟩|⟨g',cap,cur,h1,h2,h3,h4,h5,h6,h7⟩
 ·exact absurd h1 (by simp)
 ·simp only[Value.slice.injEq,Option.some.injEq,Addr.mk.injEq,and_true,true_and] at h1
  obtain ⟨rfl,rfl⟩:=h1
  have hlt:K<cur.size:=by omega
  exact ⟨⟨cur[K],cell_blk h3 K (Array.getElem?_eq_getElem hlt)⟩,free_blk h3 K⟩
theorem RefW.from {W0 w w2 w':World} {F:Nat→Prop} {b:Nat} {s':De.St} (hg:w.grownBy w2 none) (hb:W0.grownBy w none) (hF:∀ k,F k→W0.heap.size≤k∧k<w.heap.size) (h:Upto F w2 w'∧RefW W0 (Ext F w2 w') b s' w'):Upto F w w'∧RefW W0 (Ext F w w') b s' w':=by
 have h1:=h.1.size
 have h2:=hg.size
 refine ⟨(Upto.of_grown F hg).trans h.1 (fun k hk hf=>hf),h.2.wide (fun k hk=>?_) (ext_own hb hF (by omega))⟩
 rcases hk with hk|hk
 ·exact .inl hk
 ·exact .inr (by omega)
theorem refDo_open2 {W0 w:World} {F:Nat→Prop} {b:Nat} {s:De.St} (h:RefW W0 F b s w) (he:s.e=0) (v:Value) (x:De.Val) (hv:ValV w v x) (k1:x.kind=1) (hm:Tl.made x.n=true) (hK16:s.op.length<16) :
  Calls Tryz.prog 47 #[.pointer (some ⟨b,0,none⟩),v] w fun e w'=>e=.returned (.tuple #[])∧Upto F w w'∧RefW W0 (Ext F w w') b (De.step s x) w':=by
 have HX:=hid h
 have hst:De.step s x=opd s x.n.toNat:=by unfold De.step De.opn;rw[if_neg (by omega),if_pos k1,if_neg (by rw[hm];simp),if_neg (by omega)];rfl
 rw[hst]
 have hx0:=Tl.made_nat x.n hm
 obtain ⟨t,ht⟩:∃ t:Nat,x.n=(t:Int):=Int.eq_ofNat_of_zero_le (by omega)
 have hbl:=(h.own b h.mem).2
 obtain ⟨bv,S,rfl,hB,h0,_⟩:=hv
 rw[k1]
 obtain ⟨_,va,vsb,vso,vc,rfl,_⟩:=hB
 have hg:w.grownBy (w.alloc (.cells #[.int .i64 1,.int .i64 x.n,.bool x.is,.slice va x.b.length vc,.string S] 86)) none:=World.grownBy_alloc _ _ _
 have HG:=hid hg
 have HBox0:=hid (alloc_at w (.cells #[.int .i64 1,.int .i64 x.n,.bool x.is,.slice va x.b.length vc,.string S] 86))
 have HM:=hid (refMade_grow x.n (w.alloc (.cells #[.int .i64 1,.int .i64 x.n,.bool x.is,.slice va x.b.length vc,.string S] 86)))
 rw[hm] at HM
 rw[ht] at *
 rw[Int.toNat_natCast]
 obtain ⟨K,hK⟩:∃ K,K=s.op.length:=⟨_,rfl⟩
 have HK:=hid hK
 rw[←hK] at hK16
 -- the writer,as it lies
 obtain ⟨tv,rv,hc,hRw⟩:=h.body
 have hR:=hRw he
 obtain ⟨ta,tc,rfl⟩:∃ ta tc,tv=.slice ta K tc:=by
  obtain ⟨a,sb,so,c,h,_⟩:=hR.tags.now.1
  rw[tagsOf_len,←hK] at h
  exact ⟨a,c,h⟩
 obtain ⟨n0,xs0,hn0,ho0,hl0⟩:=hR.rows
 obtain ⟨ra0,c0,rfl⟩:∃ ra c,rv=.slice ra n0 c:=by
  obtain ⟨a,g,c,h,_⟩:=ownsRow_form ho0
  exact ⟨a,c,h⟩
 have hr0:=cell_blk hc 0 rfl
 have hr1:=cell_blk hc 1 rfl
 have hr2:=cell_blk hc 2 rfl
 rw[he] at hr2
 have HE:=hid he
 have HST:Hid (∀ w2,w.grownBy w2 none→AddR W0 F b (.slice ta K tc) s (.slice none 0 0) [] w2 ra0 n0 c0 xs0 w2):=hid (fun w2 hg2=>by
  have h2:=h.still hg2
  obtain ⟨tv2,rv2,hc2,hR2⟩:=h2.body
  have hcb:=(hg2.block b hbl (by simp)).trans hc
  have hRR:=hR2 he
  rw[hcb] at hc2
  simp only[Option.some.injEq,Obj.cells.injEq,Array.mk.injEq,List.cons.injEq] at hc2
  obtain ⟨⟨e1,e2,_⟩,_⟩:=hc2
  rw[←e1,←e2] at hRR
  have eF:Ext F w2 w2=F:=funext fun k=>propext (Ext.refl_iff F w2 k)
  have hi:∀ k,Im W0 F b (.slice ra0 n0 c0) k→¬ (fun _:Nat=>False) k:=fun _ _ h=>h
  refine ⟨Upto.refl F w2,by rw[hcb,he];rfl,by rw[eF];exact hRR,hn0,ho0.kept hg2 (Classical.em _),fun k hk=>by rw[eF];exact (hl0 k hk).upto (Upto.of_grown (fun _=>False) hg2) hi,?_⟩
  rw[eF]
  exact nil_elem (fun k hk=>h2.orlt k hk.1))
 have HFo:=hid h.own
 have HMe:=hid h.mem
 have HBa:=hid h.base
 clear h hc hg hst k1 hRw hR hn0 ho0 hl0 hm hx0 ht hK he
 go_enter Tryz.func47,Tryz.ntmps47
 go_wp2_with (go_at_call 95;refine HM.out.mono ?_;rintro e w2 ⟨rfl,hg2⟩;have hg3:=grown_trans HG.out hg2;have HG2:=hid hg3;have d2:=(World.cell?_of_block (hg3.block _ hbl (by simp))).trans hr2;have d0:=(World.cell?_of_block (hg3.block _ hbl (by simp))).trans hr0;have HBx:=hid ((hg2.block _ (blk_lt HBox0.out) (by simp)).trans HBox0.out);have HS:=hid (HST.out w2 hg3);clear hg2 hg3)
 go_loopw [56] (fun _ W=>∃ ra n c xs,Hid (AddR W0 F b (.slice ta K tc) s (.slice none 0 0) [] w2 ra n c xs W)) (fun _ W=>30-rowsLen b W)
 case atStart=>exact ⟨_,_,_,_,HS⟩
 case round =>
  obtain ⟨ra,n,c,xs,H⟩:=hrel
  have q0:wr.cell? ⟨b,0,none⟩=some (.slice ta K tc):=cell_blk H.out.cell 0 rfl
  have q1:wr.cell? ⟨b,1,none⟩=some (.slice ra n c):=cell_blk H.out.cell 1 rfl
  have hn:=H.out.le
  have hwr:IntKind.i64.wrap ((K:Int)+1)=(K:Int)+1:=by
   simp only[IntKind.wrap,IntKind.bits,IntKind.signed]
   simp
   omega
  have HB2:Hid (W0.grownBy w2 none):=hid (grown_join HBa.out HG2.out)
  have HF2:Hid (∀ k,F k→W0.heap.size≤k∧k<w2.heap.size):=hid (fun k hk=>⟨(HFo.out k hk).1,Nat.lt_of_lt_of_le (HFo.out k hk).2 HG2.out.size⟩)
  by_cases hnk:n≤K+1
  ·have hnz:(n:Int)≤(K:Int)+1:=by omega
   go_wp2
   go_quiet (fail)
   have H':Hid (AddR W0 F b (.slice ta K tc) s (.slice none 0 0) [] w2 ra n c xs (wr.drewN nq)):=hid (H.out.drewN nq)
   have hs:(wr.drewN nq).heap.size=wr.heap.size:=rfl
   rw[←hs] at *
   generalize wr.drewN nq=wq at *
   have HV:Hid (Vals (wq.alloc (.cells #[.slice none 0 0] 95)) (.slice (some ⟨wq.heap.size,0,none⟩) 1 1) [.slice none 0 0]):=hid (Vals.lit (xs:=[.slice none 0 0]) (alloc_at wq _))
   have HO:Hid ((wq.alloc (.cells #[.slice none 0 0] 95)).ownsRow 0 95 1 (.slice ra n c) n xs):=hid (H'.out.own.alloc _)
   have HI:=hid iV
   have q0':wq.cell? ⟨b,0,none⟩=some (.slice ta K tc):=cell_blk H'.out.cell 0 rfl
   have q1':wq.cell? ⟨b,1,none⟩=some (.slice ra n c):=cell_blk H'.out.cell 1 rfl
   go_wp2_with (at_builtin;refine wpList_appV (by rfl) (.tmp 72) (.tmp 73) 81 (by rfl) 0 95 (.slice none 0 0) 24 Tryz.underlying81 HI.out rfl (by decide) _ _ _ (by rfl) HO.out _ [.slice none 0 0] (by rfl) HV.out (Whole0.some _ _ _) (by simp[Value.oneCell']) (by simp;omega) (Nat.zero_le _) ?_;intro v2 w5 ho2 hg2 hv2;obtain ⟨a2,g2,c2,hf2,hX1,hX2,hX3,hX4⟩:=ownsRow_form ho2;clear hX1 hX2 hX3 hX4;subst hf2;have HN:=hid (H'.out.more HB2.out HF2.out HMe.out (by omega) ho2 hg2 hv2);have p0:=H'.out.at2 HF2.out HMe.out hg2;have p1:=cell_blk p0 1 rfl;have p2:=free_blk p0 1;clear p0 ho2 hg2 hv2)
   go_roundw
   case rel=>exact ⟨_,_,_,_,HN⟩
   case measure =>
    rw[rowsLen_at (cell_blk HN.out.cell 1 rfl),rowsLen_at q1]
    omega
  ·have hnz:¬ (n:Int)≤(K:Int)+1:=by omega
   obtain ⟨g,rfl,hgw⟩:∃ g,ra=some ⟨g,0,none⟩∧g<wr.heap.size:=by
    rcases H.out.own.2 with ⟨_,h0⟩|⟨g,cap,cur,h4,_,h5,_⟩
    ·omega
    ·simp only[Value.slice.injEq] at h4
     exact ⟨g,h4.1,blk_lt h5⟩
   go_wp2
   go_quiet (fail)
   have H':Hid (AddR W0 F b (.slice ta K tc) s (.slice none 0 0) [] w2 (some ⟨g,0,none⟩) n c xs (wr.drewN nq)):=hid (H.out.drewN nq)
   have hs:(wr.drewN nq).heap.size=wr.heap.size:=rfl
   rw[←hs] at hgw
   clear q0 q1 H hs
   generalize wr.drewN nq=W at *
   have hcb:W.cell? ⟨b,0,none⟩=some (.slice ta K tc):=cell_blk H'.out.cell 0 rfl
   have hbW:b<W.heap.size:=blk_lt H'.out.cell
   have hbf:=free_blk H'.out.cell 0
   have hgl2:w.heap.size<w2.heap.size:=by have:=blk_lt HBx.out;omega
   have hbox:W.heap[w.heap.size]?=some (.cells #[.int .i64 1,.int .i64 (t:Int),.bool x.is,.slice va x.b.length vc,.string S] 86 (0,0)):=(H'.out.upto.block _ hgl2 (fun hf=>by have:=(HFo.out _ hf).2;omega)).trans HBx.out
   have hne:b≠w.heap.size:=by omega
   have hKS:∀ w',W.grownBy w' none→w'.cell? ⟨w.heap.size,1,none⟩=some (.int .i64 (t:Int)):=fun w' hg'=>cell_blk ((hg'.block _ (blk_lt hbox) (by simp)).trans hbox) 1 rfl
   have hKG:∀ w',W.grownBy w' none→w'.cell? ⟨b,0,none⟩=some (.slice ta K tc):=fun w' hg'=>(World.cell?_of_block (hg'.block _ hbW (by simp))).trans hcb
   have hKF:∀ w',W.grownBy w' none→w'.frozen? ⟨b,0,none⟩=false:=fun w' hg'=>(World.frozen?_of_block (hg'.block _ hbW (by simp))).trans hbf
   have e0:=hKG _ (grown_refl _ _)
   have e1:=hKG _ (grown_alloc (o:=.cells #[] 3) (grown_refl _ _))
   have e2:=hKG _ (grown_alloc (o:=.cells #[.int .i64 (t:Int)] 3) (grown_refl _ _))
   have e3:=hKG _ (grown_alloc (o:=.cells #[.int .i64 (t:Int)] 3) (grown_alloc (o:=.cells #[] 3) (grown_refl _ _)))
   have e4:=hKG _ (grown_alloc (o:=.cells #[] 3) (grown_alloc (o:=.cells #[.int .i64 (t:Int)] 3) (grown_refl _ _)))
   have KS:=hid hKS
   have KG:=hid hKG
   have KF:=hid hKF
   obtain ⟨tg,htg⟩:∃ tg,tg=tagsOf s:=⟨_,rfl⟩
   have HTg:=hid htg
   have htl:tg.length=K:=by rw[htg,tagsOf_len];exact HK.out.symm
   have HTl:=hid htl
   have HV1:Hid (Vals W (.slice ta K tc) (cellsI tg)):=hid (vals_ints (by rw[htg];exact H'.out.rows.tags.now.1))
   have HW0:Hid (Whole0 (.slice ta K tc)):=hid H'.out.rows.tags.now.2
   have gd:W.grownBy W.drew none:=grown_drewN (grown_refl _ _) 1
   have GD:=hid gd
   have FA0:∀ w:World,FrI w (w.alloc (.cells #[] 3)) (.slice (some ⟨w.heap.size,0,none⟩) 0 0) []:=fun w=>⟨World.grownBy_alloc _ _ _,ownsRow_lit (alloc_at w _) (Nat.le_refl _) (by simp)⟩
   have FA1:Hid (FrI W (W.alloc (.cells #[] 3)).drew (.slice (some ⟨W.heap.size,0,none⟩) 0 0) []):=hid ⟨grown_drewN (FA0 W).grown 1,(FA0 W).own⟩
   have FA2:Hid (FrI W ((W.alloc (.cells #[] 3)).alloc (.cells #[.int .i64 (t:Int)] 3)).drew (.slice (some ⟨W.heap.size,0,none⟩) 0 0) []):=hid ⟨grown_drewN ((FA0 W).alloc _).grown 1,((FA0 W).alloc _).own⟩
   have FA3:Hid (FrI W ((W.alloc (.cells #[.int .i64 (t:Int)] 3)).alloc (.cells #[] 3)).drew (.slice (some ⟨W.heap.size+1,0,none⟩) 0 0) []):=hid (by
    have h1:=FA0 (W.alloc (.cells #[.int .i64 (t:Int)] 3))
    rw[alloc_size] at h1
    exact ⟨grown_drewN (grown_alloc (grown_alloc (grown_refl _ _) _) _) 1,own_base h1.own (by rw[alloc_size];omega)⟩)
   have P12:Hid (((W.alloc (.cells #[] 3)).alloc (.cells #[.int .i64 (t:Int)] 3)).drew.heap[W.heap.size+1]?=some (.cells #[.int .i64 (t:Int)] 3 (0,0))):=hid (by
    have:=alloc_at (W.alloc (.cells #[] 3)) (.cells #[.int .i64 (t:Int)] 3)
    rwa [alloc_size] at this)
   have P21:Hid (((W.alloc (.cells #[.int .i64 (t:Int)] 3)).alloc (.cells #[] 3)).drew.heap[W.heap.size]?=some (.cells #[.int .i64 (t:Int)] 3 (0,0))):=hid (alloc_keep (alloc_at W _))
   obtain ⟨K1,hK1⟩:∃ K1,K1=K+1:=⟨_,rfl⟩
   have HK1:=hid hK1
   have hnz1:(K1:Int)<(n:Int):=by omega
   have HI8:=hid iI
   clear hKS hKG hKF hcb hbf gd FA0 htg htl hK1 hbox
   go_wp2
   refine wp_region_held_drew (S:=(fun w'=>w'.cell? ⟨w.heap.size,1,none⟩=some (.int .i64 (t:Int)))) (by kernel_rfl) (by first|(dsimp only;(first|exact KS.out _ GD.out|exact KS.out _ (grown_drewN (grown_alloc (grown_refl _ _) _) 1)|exact KS.out _ (grown_drewN (grown_alloc (grown_alloc (grown_refl _ _) _) _) 1)|exact KS.out _ K11.out|exact KS.out _ K10.out|exact KS.out _ (grown_alloc K10.out _)|(rw[World.cell?_setCell_far _ _ _ _ hne];exact KS.out _ K11.out)))|(first|exact KS.out _ GD.out|exact KS.out _ (grown_drewN (grown_alloc (grown_refl _ _) _) 1)|exact KS.out _ (grown_drewN (grown_alloc (grown_alloc (grown_refl _ _) _) _) 1)|exact KS.out _ K11.out|exact KS.out _ K10.out|exact KS.out _ (grown_alloc K10.out _)|(rw[World.cell?_setCell_far _ _ _ _ hne];exact KS.out _ K11.out))) (fun hHeld=>?_)
   refine wpAnyH_take (i:=0) (oi:=({ dst:=_,op:=_,type:=_,pos:=_,after:=_,guard:=_ }:Oper)) (v:=?_) rfl (by kernel_rfl) (by kernel_rfl) (by kernel_rfl) (fun _ _ _ h=>h) (Or.inl ⟨by rfl,?_⟩) (by assumption) ?_
   rotate_left
   focus (intro w hSw;(try dsimp only at hSw);go_simp;try with_reducible rfl)
   try simp only[Act.put,List.setIfInBounds_toArray,List.set_cons_zero,List.set_cons_succ]
   refine wpAnyH_take (i:=2) (oi:=({ dst:=_,op:=_,type:=_,pos:=_,after:=_,guard:=_ }:Oper)) (v:=?_) rfl (by kernel_rfl) (by kernel_rfl) (by kernel_rfl) (fun _ _ _ h=>h) (Or.inl ⟨by rfl,?_⟩) (by assumption) ?_
   rotate_left
   focus (intro w hSw;(try dsimp only at hSw);go_simp;try with_reducible rfl)
   try simp only[Act.put,List.setIfInBounds_toArray,List.set_cons_zero,List.set_cons_succ]
   refine wpAnyH_take (i:=3) (oi:=({ dst:=_,op:=_,type:=_,pos:=_,after:=_,guard:=_ }:Oper)) (v:=?_) rfl (by kernel_rfl) (by kernel_rfl) (by kernel_rfl) (fun _ _ _ h=>h) (Or.inl ⟨by rfl,?_⟩) (by assumption) ?_
   rotate_left
   focus (intro w hSw;(try dsimp only at hSw);go_simp;try with_reducible rfl)
   try simp only[Act.put,List.setIfInBounds_toArray,List.set_cons_zero,List.set_cons_succ]
   refine wpAnyH_take (i:=4) (oi:=({ dst:=_,op:=_,type:=_,pos:=_,after:=_,guard:=_ }:Oper)) (v:=?_) rfl (by kernel_rfl) (by kernel_rfl) (by kernel_rfl) (fun _ _ _ h=>h) (Or.inl ⟨by rfl,?_⟩) (by assumption) ?_
   rotate_left
   focus (intro w hSw;(try dsimp only at hSw);go_simp;try with_reducible rfl)
   try simp only[Act.put,List.setIfInBounds_toArray,List.set_cons_zero,List.set_cons_succ]
   refine wpAnyH_take (i:=7) (oi:=({ dst:=_,op:=_,type:=_,pos:=_,after:=_,guard:=_ }:Oper)) (v:=?_) rfl (by kernel_rfl) (by kernel_rfl) (by kernel_rfl) (fun _ _ _ h=>h) (Or.inl ⟨by rfl,?_⟩) (by assumption) ?_
   rotate_left
   focus (intro w hSw;(try dsimp only at hSw);go_simp;try with_reducible rfl)
   try simp only[Act.put,List.setIfInBounds_toArray,List.set_cons_zero,List.set_cons_succ]
   refine wpAnyH_take (i:=8) (oi:=({ dst:=_,op:=_,type:=_,pos:=_,after:=_,guard:=_ }:Oper)) (v:=?_) rfl (by kernel_rfl) (by kernel_rfl) (by kernel_rfl) (fun _ _ _ h=>h) (Or.inl ⟨by rfl,?_⟩) (by assumption) ?_
   rotate_left
   focus (intro w hSw;(try dsimp only at hSw);go_simp;try with_reducible rfl)
   try simp only[Act.put,List.setIfInBounds_toArray,List.set_cons_zero,List.set_cons_succ]
   repeat' first
    |(refine wpAnyH_done (by decide +kernel) ?_ _)
    |(refine wpAnyH_ready (rs:=[1,5,9]) (by decide +kernel) (by simp) ?_)
    |(refine wpAnyH_ready (rs:=[1,5]) (by decide +kernel) (by simp) ?_)
    |(refine wpAnyH_ready (rs:=[1,9]) (by decide +kernel) (by simp) ?_)
    |(refine wpAnyH_ready (rs:=[5,9]) (by decide +kernel) (by simp) ?_)
    |(refine wpAnyH_ready (rs:=[6,9]) (by decide +kernel) (by simp) ?_)
    |(refine wpAnyH_ready (rs:=[6]) (by decide +kernel) (by simp) ?_)
    |(refine wpAnyH_ready (rs:=[5]) (by decide +kernel) (by simp) ?_)
    |(refine wpAnyH_ready (rs:=[1]) (by decide +kernel) (by simp) ?_)
    |(refine wpAnyH_ready (rs:=[10]) (by decide +kernel) (by simp) ?_)
    |(refine wpAnyH_ready (rs:=[13]) (by decide +kernel) (by simp) ?_)
    |(refine wpAnyH_ready (rs:=[9]) (by decide +kernel) (by simp) ?_)
    |exact AllReadyH.nil
    |(refine AllReadyH.cons (o:=({ dst:=_,op:=_,type:=_,pos:=_,after:=_,guard:=_ }:Oper)) rfl (fun Kq hKq=>?_) ?_;(focus ((first|((first|(refine step_appV (by rfl) (.tmp 78) (.tmp 82) 41 (by rfl) W.heap.size 3 (.int .i64 0) 8 Tryz.underlying41 HI8.out rfl (by decide) _ 0 [] (by rfl) (by first|exact FA1.out.own|exact FA2.out.own|exact FA3.out.own) _ (cellsI tg) (by rfl) (HV1.out.grown (by first|exact FA1.out.grown|exact FA2.out.grown|exact FA3.out.grown)) HW0.out (cellsI_one tg) (by have:=HTl.out;rw[cellsI_len];omega) (by first|exact FA1.out.grown.size|exact FA2.out.grown.size|exact FA3.out.grown.size) ?_;intro v10 w10 ho10 hg10;have F10:Hid (FrI W w10 v10 tg):=(by first|exact hid (FA1.out.step ho10 hg10 rfl)|exact hid (FA2.out.step ho10 hg10 rfl)|exact hid (FA3.out.step ho10 hg10 rfl));have G10:=hid hg10;have K10:Hid (W.grownBy w10 none):=hid F10.out.grown;clear ho10 hg10)|(refine step_appV (by rfl) (.tmp 83) (.tmp 86) 41 (by rfl) W.heap.size 3 (.int .i64 0) 8 Tryz.underlying41 HI8.out rfl (by decide) _ _ _ (by rfl) (by first|exact F10.out.own|exact (F10.out.alloc _).own) _ [.int .i64 (t:Int)] (by rfl) (by first|exact Vals.lit (xs:=[.int .i64 (t:Int)]) (alloc_at w10 _)|exact vals_kept G10.out P12.out (by intro e;have:=Option.some.inj (show some W.heap.size=some (W.heap.size+1) from e);omega)|exact vals_kept G10.out P21.out (by intro e;have:=Option.some.inj (show some (W.heap.size+1)=some W.heap.size from e);omega)) (Whole0.some _ _ _) (by intro u hu;rw[List.mem_singleton] at hu;subst hu;rfl) (by have:=HTl.out;simp;omega) (by first|exact F10.out.grown.size|exact (F10.out.alloc _).grown.size) ?_;intro v11 w11 ho11 hg11;have F11:Hid (FrI W w11 v11 (tg++[(t:Int)])):=(by first|exact hid (F10.out.step ho11 hg11 (by rw[cellsI_append];rfl))|exact hid ((F10.out.alloc _).step ho11 hg11 (by rw[cellsI_append];rfl)));obtain ⟨a11,g11,c11,hv11,hX1,hX2,hX3,hX4⟩:=ownsRow_form F11.out.own;clear hX1 hX2 hX3 hX4;rw[show (tg++[(t:Int)]).length=K1 by rw[List.length_append,HTl.out,HK1.out];rfl] at hv11;subst hv11;have K11:Hid (W.grownBy w11 none):=hid F11.out.grown;have e11:=KG.out _ K11.out;have fz11:=KF.out _ K11.out;clear ho11 hg11)))|go_simp);(refine hKq.out _ _ (by first|(dsimp only;(first|exact KS.out _ GD.out|exact KS.out _ (grown_drewN (grown_alloc (grown_refl _ _) _) 1)|exact KS.out _ (grown_drewN (grown_alloc (grown_alloc (grown_refl _ _) _) _) 1)|exact KS.out _ K11.out|exact KS.out _ K10.out|exact KS.out _ (grown_alloc K10.out _)|(rw[World.cell?_setCell_far _ _ _ _ hne];exact KS.out _ K11.out)))|(first|exact KS.out _ GD.out|exact KS.out _ (grown_drewN (grown_alloc (grown_refl _ _) _) 1)|exact KS.out _ (grown_drewN (grown_alloc (grown_alloc (grown_refl _ _) _) _) 1)|exact KS.out _ K11.out|exact KS.out _ K10.out|exact KS.out _ (grown_alloc K10.out _)|(rw[World.cell?_setCell_far _ _ _ _ hne];exact KS.out _ K11.out))) (fun hHeld=>?_));(clear hKq Kq);(try simp only[Act.put,List.setIfInBounds_toArray,List.set_cons_zero,List.set_cons_succ]))))
    |(refine wpAnyH_take (i:=11) (oi:=({ dst:=_,op:=_,type:=_,pos:=_,after:=_,guard:=_ }:Oper)) (v:=?_) rfl (by kernel_rfl) (by kernel_rfl) (by decide +kernel) (fun _ _ _ h=>h) (Or.inl ⟨by rfl,?_⟩) (by assumption) ?_;rotate_left;focus (intro w hSw;(try dsimp only at hSw);go_simp;try with_reducible rfl);try simp only[Act.put,List.setIfInBounds_toArray,List.set_cons_zero,List.set_cons_succ])
    |(refine wpAnyH_take (i:=12) (oi:=({ dst:=_,op:=_,type:=_,pos:=_,after:=_,guard:=_ }:Oper)) (v:=?_) rfl (by kernel_rfl) (by kernel_rfl) (by decide +kernel) (fun _ _ _ h=>h) (Or.inl ⟨by rfl,?_⟩) (by assumption) ?_;rotate_left;focus (intro w hSw;(try dsimp only at hSw);go_simp;try with_reducible rfl);try simp only[Act.put,List.setIfInBounds_toArray,List.set_cons_zero,List.set_cons_succ])
   all_goals
    obtain ⟨m1,m2,m3⟩:=open_mid H'.out K11.out (.slice a11 K1 c11)
    have M1:=hid m1
    have M2:=hid m2
    have M3:=hid m3
    have hgl:g<(w11.setCell ⟨b,0,none⟩ (.slice a11 K1 c11)).heap.size:=by
     rcases m2.2 with ⟨h,_⟩|⟨g',_,_,h,_,h3,_⟩
     ·exact absurd h (by simp)
     ·simp only[Value.slice.injEq,Option.some.injEq,Addr.mk.injEq,and_true,true_and] at h
      obtain ⟨rfl,_⟩:=h
      exact blk_lt h3
    have q0:=cell_blk m1 0 rfl
    have q1:=cell_blk m1 1 rfl
    obtain ⟨hcg,hfg⟩:=own_at m2 (by omega:K1<n)
    have hgb:g≠b:=(H'.out.rows.rown g rfl).2
    clear m1 m2 m3 e0 e1 e2 e3 e4 e11 fz11
    generalize w11.setCell ⟨b,0,none⟩ (.slice a11 K1 c11)=w5 at *
   all_goals
    obtain ⟨ug,hug⟩:=hcg
    have e15:(w5.drew).cell? ⟨b,0,none⟩=some (.slice a11 K1 c11)∧(w5.drew).cell? ⟨b,1,none⟩=some (.slice (some ⟨g,0,none⟩) n c):=⟨q0,q1⟩
    have E15:=hid e15
    clear e15
    go_wp2
    go_region_held3 (fun w'=>w'.cell? ⟨b,0,none⟩=some (.slice a11 K1 c11)∧w'.cell? ⟨b,1,none⟩=some (.slice (some ⟨g,0,none⟩) n c))
     (first
      |exact E15.out
      |exact ⟨(World.cell?_setCell_far w5 ⟨g,K1,none⟩ ⟨b,0,none⟩ _ hgb).trans E15.out.1,(World.cell?_setCell_far w5 ⟨g,K1,none⟩ ⟨b,1,none⟩ _ hgb).trans E15.out.2⟩)
     (fail)
   all_goals
    have hk:K1=s.op.length+1:=by rw[HK1.out,HK.out]
    have hfin:=open_end H'.out HB2.out HF2.out HMe.out HE.out (by rw[←HK.out];exact hK16) (by omega) (by rw[←HTg.out];exact F11.out) M1.out M2.out M3.out
    rw[←hk] at hfin
    have hfin2:=RefW.from HG2.out HBa.out HFo.out hfin
    have HFin:Hid (Upto F w (w5.setCell ⟨g,K1,none⟩ (.slice none 0 0)).drew∧RefW W0 (Ext F w (w5.setCell ⟨g,K1,none⟩ (.slice none 0 0)).drew) b (opd s t) (w5.setCell ⟨g,K1,none⟩ (.slice none 0 0)).drew):=hid ⟨hfin2.1.drew,hfin2.2.still (grown_drewN (grown_refl _ _) 1)⟩
    clear hfin hfin2
    go_wp2
    go_returns
    exact ⟨rfl,HFin.out⟩
theorem levOf_cls (s:De.St) {t:Nat} {l:List (List Nat)} {r:List (Nat×List (List Nat))} (hop:s.op=(t,l) :: r):(∀ k,k≤r.length→levOf { s with op:=r } k=levOf s k)∧levOf s (r.length+1)=l:=by
 obtain ⟨e,op,dn⟩:=s
 simp only at hop
 subst hop
 refine ⟨fun k hk=>?_,?_⟩
 ·unfold levOf
  simp only[List.reverse_cons]
  by_cases h0:k=0
  ·subst h0;simp
  ·rw[if_neg h0,if_neg h0]
   have:k-1<r.reverse.length:=by simp;omega
   simp only[List.getD_eq_getElem?_getD]
   rw[List.getElem?_append_left this]
 ·unfold levOf
  simp[List.getD_eq_getElem?_getD]
theorem levOf_far (s:De.St) {k:Nat} (hk:s.op.length<k):levOf s k=[]:=by
 unfold levOf
 rw[if_neg (by omega),List.getD_eq_getElem?_getD,List.getElem?_eq_none (by simp;omega)]
 rfl
theorem tagsOf_cls (s:De.St) {t:Nat} {l:List (List Nat)} {r:List (Nat×List (List Nat))} (hop:s.op=(t,l) :: r):tagsOf s=tagsOf { s with op:=r }++[(t:Int)]:=by
 unfold tagsOf
 rw[hop]
 simp
theorem close_mid {W0 w:World} {F:Nat→Prop} {b t:Nat} {s:De.St} {l:List (List Nat)} {r:List (Nat×List (List Nat))} {ta:Option Addr} {tc K:Nat} {rv:Value} (h:RefW W0 F b s w) (he:s.e=0) (hop:s.op=(t,l) :: r)
  (hc:w.heap[b]?=some (.cells #[.slice ta K tc,rv,.int .i64 0] 83 (0,0))) :
  Upto F w (w.setCell ⟨b,0,none⟩ (.slice ta r.length tc))∧RefW W0 F b { s with op:=r } (w.setCell ⟨b,0,none⟩ (.slice ta r.length tc)):=by
 obtain ⟨tv2,rv2,hc2,hR2⟩:=h.body
 have hR:=hR2 he
 rw[hc] at hc2
 simp only[Option.some.injEq,Obj.cells.injEq,Array.mk.injEq,List.cons.injEq] at hc2
 obtain ⟨⟨rfl,rfl,_⟩,_⟩:=hc2
 have hs:(w.setCell ⟨b,0,none⟩ (.slice ta r.length tc)).heap.size=w.heap.size:=setCell_size _ _ _
 have hu:Upto (fun k=>k=b) w (w.setCell ⟨b,0,none⟩ (.slice ta r.length tc)):=⟨rfl,rfl,rfl,by omega,fun k hk hmu=>Below.heap_setCell _ _ _ _ (fun e=>hmu e)⟩
 have hF:Upto F w (w.setCell ⟨b,0,none⟩ (.slice ta r.length tc)):=hu.mono (fun k _ hk=>by rw[hk];exact h.mem)
 have hi:∀ k,Im W0 F b rv k→¬ k=b:=fun k hk=>hk.2.1
 have hlen:s.op.length=r.length+1:=by rw[hop];rfl
 refine ⟨hF,hF.base h.base (fun k hk=>(h.own k hk).1),fun k hk=>by rw[hs];exact h.own k hk,h.mem,.slice ta r.length tc,rv,?_,fun _=>?_⟩
 ·have:=setCell_heap (i:=0) hc (.slice ta r.length tc)
  simpa [he] using this
 ·obtain ⟨n,xs,hn,ho,hl⟩:=hR.rows
  refine ⟨hR.rown,by have:=hR.deep;show r.length≤16;omega,(fun h0=>by
   obtain ⟨a,n',c',e,hlt⟩:=hR.room (by omega)
   exact ⟨a,n',c',e,by show r.length<n';omega⟩),(hR.tags.upto hu hi).map fun W hW=>⟨?_,?_⟩,n,xs,hn,own_setCell ho (fun e=>(hR.rown b e).2 rfl),fun k hk=>?_⟩
  ·have h1:=hW.1
   have hcap:=h1.cap.1
   rw[tagsOf_len] at hcap
   have h2:=h1.to r.length (by omega)
   rw[tagsOf_cls s hop,List.take_left' (by rw[tagsOf_len])] at h2
   exact h2
  ·intro n' c' e
   simp only[Value.slice.injEq] at e
   obtain ⟨rfl,rfl,rfl⟩:=e
   have hcap:=hW.1.cap.1
   rw[tagsOf_len] at hcap
   have:=hW.2 K tc rfl
   omega
  ·have hk':k≤r.length:=hk
   rw[(levOf_cls s hop).1 k hk']
   exact (hl k (by omega)).upto hu hi
theorem RefW.late {W0 w w1 w2:World} {F:Nat→Prop} {b:Nat} {s':De.St} (hb:W0.grownBy w none) (hF:∀ k,F k→W0.heap.size≤k∧k<w.heap.size) (h:Upto F w w1∧RefW W0 (Ext F w w1) b s' w1) (hg:w1.grownBy w2 none):Upto F w w2∧RefW W0 (Ext F w w2) b s' w2:=by
 have h1:=h.1.size
 have h2:=hg.size
 refine ⟨h.1.trans (Upto.of_grown F hg) (fun _ _ h=>h),(h.2.still hg).wide (fun k hk=>?_) (ext_own hb hF (by omega))⟩
 rcases hk with hk|hk
 ·exact .inl hk
 ·exact .inr (by omega)
theorem refDo_close1 {W0 w:World} {F:Nat→Prop} {b:Nat} {s:De.St} (h:RefW W0 F b s w) (he:s.e=0) (v:Value) (x:De.Val) (hv:ValV w v x) (k2:x.kind=2) (hop:s.op=[]) :
  Calls Tryz.prog 47 #[.pointer (some ⟨b,0,none⟩),v] w fun e w'=>e=.returned (.tuple #[])∧Upto F w w'∧RefW W0 (Ext F w w') b (De.step s x) w':=by
 have HX:=hid h
 have hst:De.step s x={ s with e:=24 }:=by unfold De.step De.cls;rw[if_neg (by omega),if_neg (by omega),if_pos k2,hop]
 rw[hst]
 obtain ⟨tv,rv,hc,hRw⟩:=h.body
 have hbl:=blk_lt hc
 obtain ⟨bv,S,rfl,hB,h0,_⟩:=hv
 rw[k2]
 obtain ⟨_,va,vsb,vso,vc,rfl,_⟩:=hB
 have hg:w.grownBy (w.alloc (.cells #[.int .i64 2,.int .i64 x.n,.bool x.is,.slice va x.b.length vc,.string S] 86)) none:=World.grownBy_alloc _ _ _
 have HG:=hid hg
 have hR:=hRw he
 obtain ⟨ta,tc,rfl⟩:∃ ta tc,tv=.slice ta 0 tc:=by
  obtain ⟨a,sb,so,c,h,_⟩:=hR.tags.now.1
  rw[tagsOf_len,hop] at h
  exact ⟨a,c,h⟩
 have d2:=(World.cell?_of_block (hg.block _ hbl (by simp))).trans (cell_blk hc 2 rfl)
 have e2:=(World.frozen?_of_block (hg.block _ hbl (by simp))).trans (free_blk hc 2)
 have d0:=(World.cell?_of_block (hg.block _ hbl (by simp))).trans (cell_blk hc 0 rfl)
 rw[he] at d2
 clear h hc hst k2 hRw hR
 go_enter Tryz.func47,Tryz.ntmps47
 go_wp2
 go_returns
 exact ⟨rfl,RefW.late HX.out.base HX.out.own (HX.out.err 24 (by omega)) (World.grownBy_alloc _ _ _)⟩
theorem cat_len':∀ (L:List (List Nat)),(∀ x∈L,x.length≤70000)→L.flatten.length≤70000*L.length
 |[],_=>by simp
 |x :: r,h=>by
  have h1:=cat_len' r (fun y hy=>h y (List.mem_cons_of_mem _ hy))
  have h2:=h x (List.mem_cons_self ..)
  rw[List.flatten_cons,List.length_append,List.length_cons]
  omega
theorem FW0 (w:World):FrW w (w.alloc (.cells #[] 5)) (.slice (some ⟨w.heap.size,0,none⟩) 0 0) []:=⟨World.grownBy_alloc _ _ _,ownsRow_lit (alloc_at w _) (Nat.le_refl _) (by simp)⟩
theorem vals_each {w:World} {a:Option Addr} {j c:Nat} {ys:List Value} {L:List (List Nat)} (hV:Vals w (.slice a j c) ys) (hE:Each w ys L) (hl:L.length=j) :
  ∃ sb so,∀ W,w.grownBy W none→∀ i,i<j→a=some ⟨sb,so,none⟩∧∃ y,W.cell? ⟨sb,so+i,none⟩=some y∧Bytes W y (L.getD i [])∧Whole0 y:=by
 have hj:=hV.cap.1
 obtain ⟨a',sb,so,c',e,_,h1,h2⟩:=hV
 simp only[Value.slice.injEq] at e
 obtain ⟨rfl,_,rfl⟩:=e
 refine ⟨sb,so,fun W hW i hi=>?_⟩
 obtain ⟨k1,k2⟩:=h1 (by omega)
 obtain ⟨y,k3,k4,k5⟩:=hE.at_ i (by omega)
 exact ⟨k1,y,by rw[World.cell?_of_block (hW.block sb k2 (by simp))];exact h2 i y k3,k4.grown hW,k5⟩
theorem base_ne {w:World} {base:Nat} {e:TypeId} {v:Value} {n:Nat} {xs:List Value} (h:w.ownsRow base e 1 v n xs) {b:Nat} (hb:b<base):v.ownBlock≠some b:=fun e=>by
 rcases h.2 with ⟨h1,_⟩|⟨g,_,_,h1,h2,_⟩
 ·rw[h1] at e;exact absurd e (by simp[Value.ownBlock])
 ·rw[h1] at e
  have e2:g=b:=Option.some.inj e
  omega
theorem RefW.join {W0 w w5 w':World} {F:Nat→Prop} {b:Nat} {s':De.St} (hb:W0.grownBy w none) (hF:∀ k,F k→W0.heap.size≤k∧k<w.heap.size) (hu:Upto F w w5) (h:Upto F w5 w'∧RefW W0 (Ext F w5 w') b s' w'):Upto F w w'∧RefW W0 (Ext F w w') b s' w':=by
 have h1:=h.1.size
 have h2:=hu.size
 refine ⟨hu.trans h.1 (fun k hk hf=>hf),h.2.wide (fun k hk=>?_) (ext_own hb hF (by omega))⟩
 rcases hk with hk|hk
 ·exact .inl hk
 ·exact .inr (by omega)
theorem refDo_close2 {W0 w:World} {F:Nat→Prop} {b:Nat} {s:De.St} (h:RefW W0 F b s w) (he:s.e=0) (hsm:∀ k,(levOf s k).length≤1000) (hbig:∀ k,∀ z∈levOf s k,z.length≤70000) (v:Value) (x:De.Val) (hv:ValV w v x) (k2:x.kind=2)
  {t:Nat} {l:List (List Nat)} {r:List (Nat×List (List Nat))} (hop:s.op=(t,l) :: r) (ht:t<256) :
  Calls Tryz.prog 47 #[.pointer (some ⟨b,0,none⟩),v] w fun e w'=>e=.returned (.tuple #[])∧Upto F w w'∧RefW W0 (Ext F w w') b (De.step s x) w':=by
 have HX:=hid h
 have hst:De.step s x=De.put { s with op:=r } t (if t=49 then Pt.sort l else l).flatten:=by unfold De.step De.cls;rw[if_neg (by omega),if_neg (by omega),if_pos k2,hop]
 rw[hst]
 obtain ⟨tv,rv,hc,hRw⟩:=h.body
 have hbl:=blk_lt hc
 obtain ⟨bv,S,rfl,hB,h0,_⟩:=hv
 rw[k2]
 obtain ⟨_,va,vsb,vso,vc,rfl,_⟩:=hB
 obtain ⟨w1,hw1⟩:∃ w1,w1=w.alloc (.cells #[.int .i64 2,.int .i64 x.n,.bool x.is,.slice va x.b.length vc,.string S] 86):=⟨_,rfl⟩
 have hg:w.grownBy w1 none:=by rw[hw1];exact World.grownBy_alloc _ _ _
 have HG:=hid hg
 have hR:=hRw he
 obtain ⟨K,hK⟩:∃ K,K=s.op.length:=⟨_,rfl⟩
 obtain ⟨R,hRl⟩:∃ R,R=r.length:=⟨_,rfl⟩
 have hKR:K=R+1:=by rw[hK,hRl,hop];rfl
 have hd:=hR.deep
 rw[←hK] at hd
 obtain ⟨ta,tsb,tso,tc,rfl,htc,hta,hti⟩:∃ ta tsb tso tc,tv=.slice ta K tc∧K≤tc∧(0<K→ta=some ⟨tsb,tso,none⟩∧tsb<w.heap.size)∧∀ j,j<K→w.cell? ⟨tsb,tso+j,none⟩=some (.int .i64 ((tagsOf s).getD j 0)):=by
  obtain ⟨a,sb,so,c,h,h2,h3,h4⟩:=hR.tags.now.1
  rw[tagsOf_len,←hK] at h h2 h3 h4
  exact ⟨a,sb,so,c,h,h2,h3,h4⟩
 obtain ⟨rfl,htl⟩:=hta (by omega)
 have htR:(tagsOf s).getD R 0=(t:Int):=by
  rw[tagsOf_cls s hop,List.getD_eq_getElem?_getD,List.getElem?_append_right (by rw[tagsOf_len];exact Nat.le_of_eq hRl.symm),tagsOf_len]
  show (([(t:Int)])[R-r.length]?).getD 0=_
  rw[hRl,Nat.sub_self]
  rfl
 have hcR:=hti R (by omega)
 rw[htR] at hcR
 have HTc:Hid (∀ w',w.grownBy w' none→w'.cell? ⟨tsb,tso+R,none⟩=some (.int .i64 (t:Int))):=hid (fun w' hg'=>(World.cell?_of_block (hg'.block _ htl (by simp))).trans hcR)
 have HBc:Hid (∀ w',w.grownBy w' none→w'.cell? ⟨b,0,none⟩=some (.slice (some ⟨tsb,tso,none⟩) K tc)):=hid (fun w' hg'=>(World.cell?_of_block (hg'.block _ hbl (by simp))).trans (cell_blk hc 0 rfl))
 have HBf:Hid (∀ w',w.grownBy w' none→w'.frozen? ⟨b,0,none⟩=false):=hid (fun w' hg'=>(World.frozen?_of_block (hg'.block _ hbl (by simp))).trans (free_blk hc 0))
 obtain ⟨n,xs,hn,ho,hlv⟩:=hR.rows
 obtain ⟨ra,c,rfl⟩:∃ ra c,rv=.slice ra n c:=by
  obtain ⟨a,g,c,h,_⟩:=ownsRow_form ho
  exact ⟨a,c,h⟩
 obtain ⟨ys,hys⟩:=hlv K (by omega)
 obtain ⟨hV,hE,hW0⟩:=hys.now
 have hlK:levOf s K=l:=by rw[hKR,hRl];exact (levOf_cls s hop).2
 rw[hlK] at hE
 obtain ⟨la,lc,hla⟩:∃ la lc,xs.getD K (.slice none 0 0)=.slice la l.length lc:=by
  obtain ⟨a,_,_,c,h,_⟩:=hV
  rw[hE.len] at h
  exact ⟨a,c,h⟩
 rw[hla] at hV hW0
 obtain ⟨g,rfl,hKn,hgl,hgc⟩:∃ g,ra=some ⟨g,0,none⟩∧K<n∧g<w.heap.size∧w.cell? ⟨g,K,none⟩=some (.slice la l.length lc):=by
  obtain ⟨a,n',c',e,hlt⟩:=hR.room (by omega)
  simp only[Value.slice.injEq] at e
  obtain ⟨rfl,rfl,rfl⟩:=e
  have hl:=ho.1
  rcases ho.2 with ⟨_,h0⟩|⟨g,cap,cur,h4,_,h5,_,_,h6,h7⟩
  ·omega
  ·simp only[Value.slice.injEq] at h4
   obtain ⟨rfl,_,_⟩:=h4
   refine ⟨g,rfl,by omega,blk_lt h5,cell_blk h5 K ?_⟩
   rw[←hla]
   have hk2:xs[K]?=some (xs.getD K (.slice none 0 0)):=by
    rw[List.getD_eq_getElem?_getD,List.getElem?_eq_getElem (by omega)];rfl
   rw[←hk2,←h7,List.getElem?_take,if_pos (by omega)]
   simp
 have HRc:Hid (∀ w',w.grownBy w' none→w'.cell? ⟨g,K,none⟩=some (.slice la l.length lc)):=hid (fun w' hg'=>(World.cell?_of_block (hg'.block _ hgl (by simp))).trans hgc)
 have HB1:Hid (∀ w',w.grownBy w' none→w'.cell? ⟨b,1,none⟩=some (.slice (some ⟨g,0,none⟩) n c)):=hid (fun w' hg'=>(World.cell?_of_block (hg'.block _ hbl (by simp))).trans (cell_blk hc 1 rfl))
 have HCl:Hid (∀ w4:World,w.grownBy w4 none→Upto F w4 (w4.setCell ⟨b,0,none⟩ (.slice (some ⟨tsb,tso,none⟩) R tc))∧RefW W0 F b { s with op:=r } (w4.setCell ⟨b,0,none⟩ (.slice (some ⟨tsb,tso,none⟩) R tc))):=hid (fun (w4:World) (hg4:w.grownBy w4 none)=>by
  rw[hRl]
  exact close_mid (ta:=some ⟨tsb,tso,none⟩) (tc:=tc) (K:=K) (rv:=.slice (some ⟨g,0,none⟩) n c) (h.still hg4) he hop ((hg4.block b hbl (by simp)).trans (by rw[hc,he];rfl)))
 have HBig:Hid (∀ z∈l,z.length≤70000):=hid (fun z hz=>hbig K z (by rw[hlK];exact hz))
 have HJs:Hid (l.length≤1000):=hid (by have:=hsm K;rwa [hlK] at this)
 have HV1:=hid (hV.grown hg)
 have HE1:=hid (hE.grown hg)
 have HW0:=hid hW0
 have c0:=HBc.out _ hg
 have c1:=HB1.out _ hg
 have c2:=(World.cell?_of_block (hg.block _ hbl (by simp))).trans (cell_blk hc 2 rfl)
 rw[he] at c2
 have cR:=HTc.out _ hg
 have cK:=HRc.out _ hg
 have hwr:IntKind.i64.wrap ((K:Int)-1)=(R:Int):=by
  simp only[IntKind.wrap,IntKind.bits,IntKind.signed]
  simp
  omega
 have hRK:(R:Int)<(K:Int):=by omega
 have hR0:(0:Int)≤(R:Int):=by omega
 have hRt:(R:Int)≤(tc:Int):=by omega
 have hKi:(K:Int)<(n:Int):=by omega
 have hK0:((K:Int)==0)=false:=by simp;omega
 have HSm:Hid (∀ k,(levOf { s with op:=r } k).length≤1000):=hid (fun k=>by
  by_cases hk:k≤r.length
  ·rw[(levOf_cls s hop).1 k hk];exact hsm k
  ·rw[levOf_far _ (by show r.length<k;omega)];simp)
 have HRl:=hid hRl
 have HE0:Hid ((({ s with op:=r }:De.St)).e=0):=hid he
 subst hw1
 obtain ⟨j,hj⟩:∃ j,j=l.length:=⟨_,rfl⟩
 have HJl:Hid (l.length=j):=hid hj.symm
 rw[←hj] at HV1 HRc HJs cK HW0
 clear h hc hst hRw hR hV hE hys hlv ho hop hbig hsm hgc hla htR hti hcR hj hta htc hlK hRl hd hKR hg
 by_cases h49:t=49
 ·rw[if_pos h49]
  subst h49
  clear hK
  go_enter Tryz.func47,Tryz.ntmps47
  go_wp2_with (first
   |(go_at_call 96;refine (refSorted_any la j lc ys l _ HV1.out HE1.out (by have:=HJs.out;omega)).mono ?_;rintro e w3 ⟨u3,zs,rfl,hf3,he3⟩;have HVz:=hid (Vals.own hf3.own);have hzl:zs.length=j:=by { rw[he3.len,Pt.sort_len];exact HJl.out };obtain ⟨a5,c5,hv5⟩:∃ a5 c5,u3=.slice a5 j c5:=by { obtain ⟨a,g,c,h,_⟩:=ownsRow_form hf3.own;rw[hzl] at h;exact ⟨a,c,h⟩ };subst hv5;have HE5:=hid he3;have HG5:=hid (grown_trans HG.out hf3.grown);have t5:=HTc.out _ HG5.out;have r5:=HRc.out _ HG5.out;have FA:=hid (FW0 w3);clear hf3 he3 hzl)
   |fail)
  have HLL:Hid ((Pt.sort l).length=j):=hid (by rw[Pt.sort_len];exact HJl.out)
  have HPl:Hid (∀ i,i≤j→((Pt.sort l).take i).flatten.length≤100000000):=hid (fun i hi=>by
   have:=cat_len' ((Pt.sort l).take i) (fun z hz=>(fun z hz=>HBig.out z (Pt.sort_mem.1 hz)) z (List.mem_of_mem_take hz))
   rw[List.length_take,HLL.out] at this
   have:=HJs.out
   omega)
  have HTk:Hid (∀ i,i<j→((Pt.sort l).take (i+1)).flatten=((Pt.sort l).take i).flatten++(Pt.sort l).getD i []):=hid (fun i hi=>cat_take _ (by rw[HLL.out];exact hi))
  have HTe:Hid (((Pt.sort l).take j).flatten=(Pt.sort l).flatten):=hid (by rw[List.take_of_length_le (by rw[HLL.out];exact Nat.le_refl _)])
  obtain ⟨sb,so,HI⟩:=vals_each HVz.out HE5.out HLL.out
  have HI3:=hid HI
  clear HI
  go_loopw [6,133] (fun v i wr=>∃ k:Nat,k≤j∧i=.int .i64 (k:Int)∧FrW w3 wr v ((Pt.sort l).take k).flatten) (fun _ i _=>j-(intOf i).toNat)
  case atStart=>exact ⟨0,Nat.zero_le _,rfl,FA.out⟩
  case round =>
   obtain ⟨k,hk,rfl,hF⟩:=hrel
   have hjs:=HJs.out
   have HF:=hid hF
   by_cases hkj:k<j
   ·obtain ⟨rfl,y,hy,hyb,hy0⟩:=HI3.out wr hF.grown k hkj
    have HYb:=hid hyb
    have HY0:=hid hy0
    have HTk2:=hid (HTk.out k hkj)
    have HP2:=hid (HPl.out (k+1) (by omega))
    clear hF hyb hy0
    go_wp2_with (at_builtin;refine wpList_appB (by rfl) (.tmp 137) (.tmp 138) 27 (by rfl) w3.heap.size 5 (.int .u8 0) 1 Tryz.underlying27 (by kernel_rfl) rfl (by decide) _ _ _ (by rfl) HF.out.own _ _ (by rfl) HYb.out HY0.out (by have h1:=HP2.out;rw[HTk2.out,List.length_append] at h1;omega) HF.out.le ?_;intro v4 w4 ho4 hg4;have F4:=hid (HF.out.step (l':=((Pt.sort l).take (k+1)).flatten) ho4 hg4 (by rw[HTk2.out];exact (cellsL_append _ _).symm));clear ho4 hg4)
    go_roundw
    case rel=>exact ⟨k+1,by omega,by go_num,F4.out⟩
    case measure=>simp[intOf];omega
   ·obtain rfl:k=j:=by omega
    rw[HTe.out] at HF
    have gr:=grown_trans HG5.out HF.out.grown
    have GR:=hid gr
    have t6:=HTc.out _ gr
    have r6:=HRc.out _ gr
    have c6:=HBc.out _ gr
    have f6:=HBf.out _ gr
    clear hF
    have HC4:=hid (HCl.out _ gr)
    have HLt:=hid HE5.out.lt
    have HO6:=hid (own_setCell (b:=b) (i:=0) (u:=.slice (some ⟨tsb,tso,none⟩) R tc) HF.out.own (base_ne HF.out.own (Nat.lt_of_lt_of_le hbl HG5.out.size)))
    clear gr
    have HPut:=hid ((rwPut_any HC4.out.2 HE0.out HSm.out 49 ht _ (Pt.sort l).flatten (Bytes.own HO6.out HLt.out) (Whole0.own HO6.out)).mono (fun e w6 ⟨h1,h2,h3⟩=>(⟨h1,RefW.join HX.out.base HX.out.own ((Upto.of_grown F GR.out).trans HC4.out.1 (fun _ _ h=>h)) ⟨h2,h3⟩⟩:e=Ending.returned (.tuple #[])∧_)))
    rw[show ((49:Nat):Int)=49 from rfl] at HPut
    go_wp2_with (go_at_call 97;refine HPut.out.mono ?_;rintro e w6 ⟨rfl,k6⟩;have K6:=hid k6;clear k6)
    go_returns
    exact ⟨rfl,K6.out⟩
 ·rw[if_neg h49]
  have z49:((t:Int)==49)=false:=by simp;omega
  clear hK
  go_enter Tryz.func47,Tryz.ntmps47
  have FA:=hid (by
   have:=FW0 (w.alloc (.cells #[.int .i64 2,.int .i64 x.n,.bool x.is,.slice va x.b.length vc,.string S] 86))
   rw[alloc_size] at this
   exact this)
  have HVz:=HV1
  have HE5:=HE1
  have HG5:=HG
  go_wp2
  have HLL:Hid (l.length=j):=hid (HJl.out)
  have HPl:Hid (∀ i,i≤j→(l.take i).flatten.length≤100000000):=hid (fun i hi=>by
   have:=cat_len' (l.take i) (fun z hz=>(HBig.out) z (List.mem_of_mem_take hz))
   rw[List.length_take,HLL.out] at this
   have:=HJs.out
   omega)
  have HTk:Hid (∀ i,i<j→(l.take (i+1)).flatten=(l.take i).flatten++l.getD i []):=hid (fun i hi=>cat_take _ (by rw[HLL.out];exact hi))
  have HTe:Hid ((l.take j).flatten=l.flatten):=hid (by rw[List.take_of_length_le (by rw[HLL.out];exact Nat.le_refl _)])
  obtain ⟨sb,so,HI⟩:=vals_each HVz.out HE5.out HLL.out
  have HI3:=hid HI
  clear HI
  go_loopw [6,133] (fun v i wr=>∃ k:Nat,k≤j∧i=.int .i64 (k:Int)∧FrW (w.alloc (.cells #[.int .i64 2,.int .i64 x.n,.bool x.is,.slice va x.b.length vc,.string S] 86)) wr v (l.take k).flatten) (fun _ i _=>j-(intOf i).toNat)
  case atStart=>exact ⟨0,Nat.zero_le _,rfl,FA.out⟩
  case round =>
   obtain ⟨k,hk,rfl,hF⟩:=hrel
   have hjs:=HJs.out
   have HF:=hid hF
   by_cases hkj:k<j
   ·obtain ⟨rfl,y,hy,hyb,hy0⟩:=HI3.out wr hF.grown k hkj
    have HYb:=hid hyb
    have HY0:=hid hy0
    have HTk2:=hid (HTk.out k hkj)
    have HP2:=hid (HPl.out (k+1) (by omega))
    clear hF hyb hy0
    go_wp2_with (at_builtin;refine wpList_appB (by rfl) (.tmp 137) (.tmp 138) 27 (by rfl) (w.alloc (.cells #[.int .i64 2,.int .i64 x.n,.bool x.is,.slice va x.b.length vc,.string S] 86)).heap.size 5 (.int .u8 0) 1 Tryz.underlying27 (by kernel_rfl) rfl (by decide) _ _ _ (by rfl) HF.out.own _ _ (by rfl) HYb.out HY0.out (by have h1:=HP2.out;rw[HTk2.out,List.length_append] at h1;omega) HF.out.le ?_;intro v4 w4 ho4 hg4;have F4:=hid (HF.out.step (l':=(l.take (k+1)).flatten) ho4 hg4 (by rw[HTk2.out];exact (cellsL_append _ _).symm));clear ho4 hg4)
    go_roundw
    case rel=>exact ⟨k+1,by omega,by go_num,F4.out⟩
    case measure=>simp[intOf];omega
   ·obtain rfl:k=j:=by omega
    rw[HTe.out] at HF
    have gr:=grown_trans HG5.out HF.out.grown
    have GR:=hid gr
    have t6:=HTc.out _ gr
    have r6:=HRc.out _ gr
    have c6:=HBc.out _ gr
    have f6:=HBf.out _ gr
    clear hF
    have HC4:=hid (HCl.out _ gr)
    have HLt:=hid HE5.out.lt
    have HO6:=hid (own_setCell (b:=b) (i:=0) (u:=.slice (some ⟨tsb,tso,none⟩) R tc) HF.out.own (base_ne HF.out.own (Nat.lt_of_lt_of_le hbl HG.out.size)))
    clear gr
    have HPut:=hid ((rwPut_any HC4.out.2 HE0.out HSm.out t ht _ l.flatten (Bytes.own HO6.out HLt.out) (Whole0.own HO6.out)).mono (fun e w6 ⟨h1,h2,h3⟩=>(⟨h1,RefW.join HX.out.base HX.out.own ((Upto.of_grown F GR.out).trans HC4.out.1 (fun _ _ h=>h)) ⟨h2,h3⟩⟩:e=Ending.returned (.tuple #[])∧_)))
    go_wp2_with (go_at_call 97;refine HPut.out.mono ?_;rintro e w6 ⟨rfl,k6⟩;have K6:=hid k6;clear k6)
    go_returns
    exact ⟨rfl,K6.out⟩
end Go.Proofs.YtjjbkpjjmbfdhaaGreatDoor
