import Derived.Test.YtjjbkpjjmbfdhaaGreatDoorZb11
import Derived.Test.YtjjbkpjjmbfdhaaGreatDoorZb33
import Derived.Test.YtjjbkpjjmbfdhaaGreatDoorZb37
import Derived.Test.YtjjbkpjjmbfdhaaGreatDoorZb38
import Derived.Test.YtjjbkpjjmbfdhaaGreatDoorZb41
import Derived.Test.YtjjbkpjjmbfdhaaGreatDoorZb42
import Derived.Test.YtjjbkpjjmbfdhaaGreatDoorZb45
import Derived.Test.YtjjbkpjjmbfdhaaGreatDoorZb46
import Derived.Test.YtjjbkpjjmbfdhaaGreatDoorZb47
import Derived.BigQuiet
set_option linter.unusedVariables false
set_option linter.unusedSimpArgs false
set_option maxRecDepth 100000
set_option maxHeartbeats 40000000
namespace Go.Proofs.YtjjbkpjjmbfdhaaGreatDoor
open Go.Lib (hid)
theorem rowBR_of {W:World} (h:laidMet Tryz.prog laidsBS W):∃ A,BodiesOf A W∧ReadsOf A W:=by
 obtain ⟨A,hE⟩:=allErrs_of h (List.range' 1 28) rfl (by decide)
 have hL:=lens_genB h (.tail _ (List.mem_append_right _ (.head _)))
 have hU:=u8_of h (.tail _ (List.mem_append_right _ (.tail _ (.head _)))) (.head _)
 exact ⟨A,{ errs:=hE,texts:=xput_any A W hE (plain_any W hU),moment:=mPut_any A W hE hL },{ errs:=hE,moment:=mGet_any A W hE hL,text:=xget_any A W hE (plain_any W hU) }⟩
end Go.Proofs.YtjjbkpjjmbfdhaaGreatDoor
namespace Go.Proofs.YtjjbkpjjmbfdhaaGreatDoor
open Go.Lib (hid)
open Bu
theorem longB_ok {sp:ByteArray} {l:List An} (h:longB sp l=false):sp.size≤100∧l.length≤20∧∀ x∈l,x.k.size≤100:=by
 unfold longB at h
 rw[Bool.or_eq_false_iff,Bool.or_eq_false_iff,decide_eq_false_iff_not,decide_eq_false_iff_not,List.any_eq_false] at h
 refine ⟨by omega,by omega,fun x hx=>?_⟩
 have:=h.2.2 x hx
 rw[decide_eq_true_eq] at this
 omega
theorem sameI_yes (v1 v2:Value) (l:List Int) (w:World) (h1:Ints w v1 l) (h2:Ints w v2 l) (hl:l.length≤1099511627776) :
  Calls Tryz.prog 15 #[v1,v2] w fun e w'=>e=.returned (.bool true)∧w.grownBy w' none :=
 (sameI_any v1 v2 l l w h1 h2 hl hl).mono (fun e w' ⟨h3,q,h4⟩=>⟨by rw[h3];simp,by rw[h4];exact grown_drewN (grown_refl _ _) _⟩)
theorem ReadsOf.upB {A:Nat→Addr} {w w':World} (h:ReadsOf A w) (hg:w.grownBy w' none):ReadsOf A w' where
 errs:=h.errs.grown hg
 moment:=fun v l W h1=>h.moment v l W (grown_trans hg h1)
 text:=fun v s m W h1 h2 h3=>h.text v s m W h1 h2 (grown_trans hg h3)
end Go.Proofs.YtjjbkpjjmbfdhaaGreatDoor
namespace Go.Proofs.YtjjbkpjjmbfdhaaGreatDoor
open Go.Lib (hid)
open Go.RowKit Bu
theorem Ans.upto9 {w w':World} {F:Nat→Prop} {v:Value} {l:List An} (h:Ans w v l) (hb:∀ k,v.ownBlock=some k→¬ F k) (hu:Upto F w w'):Ans w' v l:=by
 obtain ⟨⟨h1,a,g,o,c,rfl,h2,h3⟩,h0⟩:=h
 refine ⟨⟨h1,a,g,o,c,rfl,fun hp=>⟨(h2 hp).1,Nat.lt_of_lt_of_le (h2 hp).2 hu.size⟩,fun j v hj=>?_⟩,h0⟩
 have hp:0<l.length:=by
  rcases Nat.eq_zero_or_pos l.length with h9|h9
  ·rw[List.length_eq_zero_iff.1 h9] at hj;cases hj
  ·exact h9
 obtain ⟨rfl,hg⟩:=h2 hp
 rw[World.cell?_of_block (hu.block g hg (hb g (by simp[Value.ownBlock])))]
 exact h3 j v hj
theorem bytesEqual_yes (va vb:Option Addr) (n m vc vd:Nat) (l:List Nat) (w:World) (hA:Bytes w (.slice va n vc) l) (hB:Bytes w (.slice vb m vd) l) :
  Calls Tryz.prog 46 #[.slice va n vc,.slice vb m vd] w fun e w'=>e=.returned (.bool true)∧w.grownBy w' none:=by
 have E1:(convert 27 9 (.slice va n vc)).run Tryz.prog w=.ok (.string (strOf l)) w:=conv_bytes hA _ _ _ Tryz.underlying27 Tryz.underlying5 Tryz.underlying9
 have E2:(convert 27 9 (.slice vb m vd)).run Tryz.prog w=.ok (.string (strOf l)) w:=conv_bytes hB _ _ _ Tryz.underlying27 Tryz.underlying5 Tryz.underlying9
 clear hA hB
 go_enter Tryz.func46,Tryz.ntmps46
 go_wp2
 go_ret
 exact ⟨by simp,grown_refl _ _⟩
theorem upto3c {w:World} {b:Nat} {x y z:Value}:Upto (fun k=>k=b) w (((w.setCell ⟨b,0,none⟩ x).setCell ⟨b,1,none⟩ y).setCell ⟨b,2,none⟩ z) :=
 ((cell_upto (M:=fun k=>k=b) rfl).trans (cell_upto (M:=fun k=>k=b) rfl) (fun _ _ h=>h)).trans (cell_upto (M:=fun k=>k=b) rfl) (fun _ _ h=>h)
def JA (j:Nat) (s:De.Rd):Prop:=j≤8∧LeftN (3+j) s
theorem bRead_any (A:Nat→Addr) (va:Option Addr) (n vc:Nat) (bd:Bd) (w:World) (hB:Bytes w (.slice va n vc) (BB bd)) (h0:Whole0 (.slice va n vc)) (hn:n=(BB bd).length) (hr:right bd=true) (hR:ReadsOf A w) (hBo:BodiesOf A w) :
  Calls Tryz.prog 12 #[.slice va n vc] w fun e w'=>∃ p,e=.returned (.tuple #[.agg #[.int .i64 bd.v,.string bd.sp,p],.nilIface])∧Ans w' p bd.l∧w.grownBy w' none:=by
 have hI:(Tryz.prog.info? 24).map (·.size)=some 3:=bd_info
 obtain ⟨hd4,hlen,_⟩:=bb_ok hr
 obtain ⟨hv,hlb,hok,h8,hall⟩:=right_all hr
 have hpos:1≤bd.l.length:=by
  have:=hok
  unfold okL at this
  rw[Bool.and_eq_true,decide_eq_true_eq] at this
  exact this.1.1
 obtain ⟨w1,hw1⟩:∃ w1,w1=(w.alloc (.cells #[.int .i64 0,.string ⟨#[]⟩,.slice none 0 0] 24)).alloc (.cells #[.int .i64 0,.string ⟨#[]⟩,.slice none 0 0] 24):=⟨_,rfl⟩
 have hg1:w.grownBy w1 none:=by rw[hw1];exact grown_alloc (World.grownBy_alloc _ _ _) _
 have hs1:w1.heap.size=w.heap.size+2:=by rw[hw1,alloc_size,alloc_size]
 have hb2:w1.heap[w.heap.size]?=some (.cells #[.int .i64 0,.string ⟨#[]⟩,.slice none 0 0] 24 (0,0)):=by rw[hw1];exact alloc2_old _ _ _
 have hb3:w1.heap[w.heap.size+1]?=some (.cells #[.int .i64 0,.string ⟨#[]⟩,.slice none 0 0] 24 (0,0)):=by rw[hw1];exact alloc2_new _ _ _
 have HRd:Hid (Calls Tryz.prog 34 #[.slice va n vc] w1 fun e w'=>∃ b,e=.returned (.pointer (some ⟨b,0,none⟩))∧w1.grownBy w' none∧PrR A w (fun k=>w1.heap.size≤k∧k<w'.heap.size) b ⟨0,BB bd,[]⟩ w'):=hid (by
  have hB1:=hB.grown hg1
  rw[hn] at hB1 h0 ⊢
  rw[←rd_start hr]
  exact (rrRead_any A va vc (BB bd) w w1 hg1 hB1 h0 (by omega) (hR.errs.grown hg1)).mono (fun e w' ⟨b,h1,_,h3,h4⟩=>⟨b,h1,h3,h4⟩))
 have l0:LeftN 0 ⟨0,BB bd,[]⟩:=by rw[←rd_start hr];exact LeftN.start (by omega)
 have l1:LeftN 1 (rd1 bd):=by have:=l0.enter 48;rwa [rd_enter hr] at this
 have l2:LeftN 1 (rd2 bd):=by have:=l1.said 3 0 1 1099511627776 (by decide) (by decide);rwa [rd_int hr] at this
 have l3:LeftN 1 (rd3 bd):=by have:=l2.said 7 0 0 24 (by decide) (by decide);rwa [rd_txt hr] at this
 have HEn:=hid (fun F b W (h:PrR A w F b ⟨0,BB bd,[]⟩ W)=>by
  have:=prEnter_any h hR.errs 48
  rw[rd_enter hr] at this
  exact this)
 have HIn:=hid (fun F b W (h:PrR A w F b (rd1 bd) W)=>by
  have:=rdInt h hR 0 1 1099511627776
  rw[rd_int hr] at this
  exact this)
 have HTx:=hid (fun F b W (h:PrR A w F b (rd2 bd) W)=>by
  have:=rdText h hR l2.first 0 0 24 (by unfold inT;omega)
  rw[rd_txt hr] at this
  exact this)
 obtain ⟨xs,hxp,hxe⟩:=rd_row hr
 have HRo:=hid (fun F b W (h:PrR A w F b (rd3 bd) W)=>by
  have:=prRow_an h hR.errs 49 8 40 #[] gAn JA (fun _ _=>by simp[go_sem]) ⟨by omega,(l3.enter 49).mono (by omega)⟩ (fun j s' hj _ hlt=>⟨by omega,(hj.2.an).mono (by omega)⟩) (fun j s' hj=>by have:=hj.1;omega) (fun j F' s' W hj _ hr=>bget1_any hr hR hj.2)
  rw[hxe,show ((8:Nat):Int)=8 from rfl] at this
  exact this)
 have hxl:xs.length=bd.l.length:=hxp.length_eq
 have HRi:=hid (fun base T v W (h:W.ownsRow base T 4 v xs.length (cellsA xs))=>(rising_any base T v xs W h (by omega) (by omega)).mono (fun e w' ⟨h1,l',h2,h3,h4,h5⟩=>by
  have e9:bd.l=l':=(okL_perm (hxp.symm.trans h2.symm) ((okL_rise hok).imp (fun h=>Int.le_of_lt h)) h3).2 hok
  subst e9
  exact (show e=.returned v∧Ans w' v bd.l∧∃ g,v.ownBlock=some g∧W.grownBy w' (some g) from ⟨h1,h4,h5⟩)))
 have HLv:=hid (fun F b W (h:PrR A w F b ⟨0,[],[[]]⟩ W)=>by
  have:=prLeave_any h hR.errs
  rw[De.leave_elem] at this
  exact this)
 have HEd:=hid (fun F b W (h:PrR A w F b ⟨0,[],[]⟩ W)=>by
  have:=prEnd_any h hR.errs
  rw[errOf,if_pos (by rfl)] at this
  exact this)
 have HBy:=hid (fun W p (hW:w.grownBy W none) (hp:Ans W p bd.l)=>by
  have:=bBytes_any (A:=A) bd.v bd.sp p bd.l W hp (by cases bd;exact hr) (fun x hx=>by
   have:=(okAn_all (hall x hx)).1
   have hkk:(decide ((strL x.k).length=32)&&hexOk (strL x.k))=true:=this
   rw[Bool.and_eq_true,decide_eq_true_eq] at hkk
   have:=strL_len x.k
   omega) (by
   have:=(De.label_asked (m:=24) hlb (by omega)).2
   rw[strL_len] at this
   omega) (BodiesOf.up9 hBo hW)
  have e9:De.done (putBd ⟨bd.v,bd.sp,bd.l⟩)=.ok (BB bd):=by cases bd;exact done_bd hr
  rw[e9] at this
  exact this)
 have HEq:=hid (fun W vb m vd (hW:w.grownBy W none) (hb:Bytes W (.slice vb m vd) (BB bd))=>bytesEqual_yes vb va m n vd vc (BB bd) W hb (hB.grown hW))
 have hsp:strOf (strL bd.sp)=bd.sp:=strOf_strL _
 obtain ⟨s0,hs0⟩:∃ s0:De.Rd,s0=⟨0,BB bd,[]⟩:=⟨_,rfl⟩
 obtain ⟨s4,hs4⟩:∃ s4:De.Rd,s4=⟨0,[],[[]]⟩:=⟨_,rfl⟩
 obtain ⟨s5,hs5⟩:∃ s5:De.Rd,s5=⟨0,[],[]⟩:=⟨_,rfl⟩
 rw[←hs0] at HRd HEn
 rw[←hs4] at HRo HLv
 rw[←hs5] at HLv HEd
 generalize rd1 bd=s1 at *
 generalize rd2 bd=s2 at *
 generalize rd3 bd=s3 at *
 generalize BB bd=L at *
 obtain ⟨bv,bsp,bl⟩:=bd
 simp only at *
 rw[hsp] at HTx
 have HW1:=hid hw1
 have HG1:=hid hg1
 have HB2:=hid hb2
 have HB3:=hid hb3
 have HS1:=hid hs1
 obtain ⟨BX,hBX⟩:∃ BX:Nat→Prop,BX=(fun k=>k=w.heap.size∨k=w.heap.size+1):=⟨_,rfl⟩
 have M2:Hid (BX w.heap.size):=hid (by rw[hBX];exact .inl rfl)
 have M3:Hid (BX (w.heap.size+1)):=hid (by rw[hBX];exact .inr rfl)
 have HBz:Hid (∀ k,BX k→w.heap.size≤k):=hid (fun k hk=>by rw[hBX] at hk;rcases hk with hk|hk <;> omega)
 have HBlt:Hid (∀ k,BX k→k<w1.heap.size):=hid (fun k hk=>by rw[hBX] at hk;rcases hk with hk|hk <;> omega)
 obtain ⟨nx,hnx⟩:∃ nx,nx=xs.length:=⟨_,rfl⟩
 have HNx:=hid (show 0<nx by omega)
 obtain ⟨CX,hCX⟩:∃ CX,CX=cellsA xs:=⟨_,rfl⟩
 rw[←hnx,←hCX] at HRo HRi
 obtain ⟨m9,hm9⟩:∃ m9,m9=L.length:=⟨_,rfl⟩
 clear hB h0 hn hr hR hBo hd4 hlen hv hlb hok h8 hall hpos hw1 hg1 hs1 hb2 hb3 l0 l1 l2 l3 hxp hxe hxl hsp hs0 hs4 hs5 hBX hnx hCX
 go_enter Tryz.func12,Tryz.ntmps12
 go_wp2_with (first
  |(go_at_call 34;rw[←HW1.out];(with_reducible refine HRd.out.mono ?_);rintro e w2 ⟨b,rfl,hg2,hp2⟩;have hBo2:Hid (∀ k,BX k→k<w2.heap.size∧¬ (w1.heap.size≤k∧k<w2.heap.size)):=hid (fun k hk=>⟨Nat.lt_of_lt_of_le (HBlt.out k hk) hg2.size,fun h=>by have:=HBlt.out k hk;omega⟩);obtain ⟨FX,hFX⟩:∃ FX:Nat→Prop,FX=(fun k=>w1.heap.size≤k∧k<w2.heap.size):=⟨_,rfl⟩;have hFl:Hid (∀ k,FX k→k<w2.heap.size):=hid (fun k hk=>by rw[hFX] at hk;exact hk.2);have hBo:Hid (∀ k,BX k→k<w2.heap.size∧¬ FX k):=hid (by rw[hFX];exact hBo2.out);rw[←hFX] at hp2;have R2:Hid (RunB A w w2 FX FX BX b s0 w2):=hid (RunB.start hp2);have C2:=hid (hold_b3 HB2.out hg2);have C3:=hid (hold_b3 HB3.out hg2);have HG2:=hid (grown_trans HG1.out hg2);clear hg2 hp2 hBo2 hFX)
  |(go_at_call 35;(with_reducible refine (HEn.out _ _ _ R2.out.rd).mono ?_);rintro e w3 ⟨hu3,hp3,rfl⟩;have R3:=hid (R2.out.call hFl.out hu3 hp3);have D2:=hid (R2.out.kept hBo.out hu3 M2.out C2.out);have D3:=hid (R2.out.kept hBo.out hu3 M3.out C3.out);clear hu3 hp3)
  |(go_at_call 36;(with_reducible refine (HIn.out _ _ _ R3.out.rd).mono ?_);rintro e w4 ⟨rfl,hu4,hp4⟩;have R4:=hid (R3.out.call hFl.out hu4 hp4);have E2:=hid (R3.out.kept hBo.out hu4 M2.out D2.out);have E3:=hid (R3.out.kept hBo.out hu4 M3.out D3.out);have y0:=free_blk E3.out 0;have z0:=cell_blk E3.out 0 rfl;clear hu4 hp4)
  |(go_at_call 37;have R4b:=hid (R4.out.set hBo.out HBz.out M3.out (i:=0) (v:=.int .i64 bv));(with_reducible refine (HTx.out _ _ _ R4b.out.rd).mono ?_);rintro e w5 ⟨rfl,hu5,hp5⟩;have R5:=hid (R4b.out.call hFl.out hu5 hp5);have F2:=hid (R4b.out.kept hBo.out hu5 M2.out ((Below.heap_setCell _ _ _ _ (Nat.ne_of_lt (Nat.lt_succ_self _))).trans E2.out));have F3:=hid (R4b.out.kept hBo.out hu5 M3.out (setCell_heap E3.out _));have y1:=free_blk F3.out 1;have z1:=cell_blk F3.out 1 rfl;clear hu5 hp5)
  |(go_at_call 39;have R5b:=hid (R5.out.set hBo.out HBz.out M3.out (i:=1) (v:=.string bsp));(with_reducible refine (HRo.out _ _ _ R5b.out.rd).mono ?_);rintro e w6 ⟨F6,v6,rfl,hr6⟩;obtain ⟨ra6,rg6,rc6,hv6,-⟩:=own_formN hr6.row;subst hv6;have R6:=hid (R5b.out.row hr6);have G2:=hid (R5b.out.kept hBo.out hr6.upto M2.out ((Below.heap_setCell _ _ _ _ (Nat.ne_of_lt (Nat.lt_succ_self _))).trans F2.out));have G3:=hid (R5b.out.kept hBo.out hr6.upto M3.out (setCell_heap F3.out _));have Q6:=hid hr6.row;have Q6f:=hid hr6.free;have Q6g:Hid (∀ k,(Value.slice ra6 nx rc6).ownBlock=some k→w2.heap.size≤k):=hid (fun k hk=>Nat.le_trans R5b.out.upto.size (hr6.row.lt k hk).1);clear hr6)
  |(go_at_call 38;(with_reducible refine (HRi.out _ _ _ _ Q6.out).mono ?_);rintro e w7 ⟨rfl,ha7,g7,hg7,hgr7⟩;have hge:=Q6g.out g7 hg7;have hu7:Upto (fun k=>k=g7) w6 w7:=Upto.of_row hgr7 (fun k hk=>.inl (by simpa using hk.symm));have R7:=hid (R6.out.other HG2.out.size hu7 (fun k hk=>by subst hk;exact ⟨hge,Q6f.out _ hg7⟩));have I2:=hid ((hu7.block w.heap.size (blk_lt G2.out) (fun h=>by have:=(hBo.out _ M2.out).1;omega)).trans G2.out);have I3:=hid ((hu7.block (w.heap.size+1) (blk_lt G3.out) (fun h=>by have:=(hBo.out _ M3.out).1;omega)).trans G3.out);have A7:=hid ha7;have Q7:=hid hg7;have HNb:Hid (∀ k,BX k→k≠g7):=hid (fun k hk h=>by have:=(hBo.out _ hk).1;omega);have y2:=free_blk I3.out 2;have z2:=cell_blk I3.out 2 rfl;clear ha7 hgr7 hge hu7 hg7)
  |(go_at_call 44;have R7b:=hid (R7.out.set hBo.out HBz.out M3.out (i:=2) (v:=.slice ra6 nx rc6));have A7b:=hid (A7.out.upto9 (F:=fun k=>k=w.heap.size+1) (fun k hk h=>HNb.out _ M3.out (by rw[Q7.out] at hk;have:=Option.some.inj hk;omega)) (cell_upto (M:=fun k=>k=w.heap.size+1) (i:=2) (v:=.slice ra6 nx rc6) rfl));(with_reducible refine (HLv.out _ _ _ R7b.out.rd).mono ?_);rintro e w8 ⟨rfl,hu8,hp8⟩;have R8:=hid (R7b.out.call hFl.out hu8 hp8);have A8:=hid (A7b.out.upto9 (fun k hk=>Q6f.out k hk) hu8);have J2:=hid (R7b.out.kept hBo.out hu8 M2.out ((Below.heap_setCell _ _ _ _ (Nat.ne_of_lt (Nat.lt_succ_self _))).trans I2.out));have J3:Hid (w8.heap[w.heap.size+1]?=some (.cells #[.int .i64 bv,.string bsp,.slice ra6 nx rc6] 24 (0,0))):=hid (R7b.out.kept hBo.out hu8 M3.out (setCell_heap I3.out _));clear hu8 hp8)
  |(go_at_call 45;(with_reducible refine (HEd.out _ _ _ R8.out.rd).mono ?_);rintro e w9 ⟨rfl,rfl⟩)
  |(refine wpList_load_row (by rfl) 24 (.tmp 4) (by rfl) (w.heap.size+1) (by rfl) 24 #[.int .i64 bv,.string bsp,.slice ra6 nx rc6] (0,0) _ J3.out Tryz.underlying24 rfl hI ?_)
  |(go_at_call 6;(with_reducible refine (HBy.out _ _ R8.out.rd.base A8.out).mono ?_);rintro e w10 ⟨hg10,-,a10,c10,rfl,hb10,-⟩;have X10:=hid hb10;have K2:=hid (hold_b3 J2.out hg10);have K3:=hid (hold_b3 J3.out hg10);have A10:=hid (A8.out.grown hg10);have HG10:=hid (grown_trans R8.out.rd.base hg10);clear hg10 hb10)
  |(go_at_call 46;(with_reducible refine (HEq.out _ _ _ _ HG10.out X10.out).mono ?_);rintro e w11 ⟨rfl,hg11⟩;have L2:=hid (hold_b3 K2.out hg11);have L3:=hid (hold_b3 K3.out hg11);have A11:=hid (A10.out.grown hg11);have HG11:=hid (grown_trans HG10.out hg11);clear hg11)
  |(refine wpList_load_row (by rfl) 24 (.tmp 4) (by rfl) (w.heap.size+1) (by rfl) 24 #[.int .i64 bv,.string bsp,.slice ra6 nx rc6] (0,0) _ L3.out Tryz.underlying24 rfl hI ?_;have u0:=free_blk L2.out 0;have u1:=free_blk L2.out 1;have u2:=free_blk L2.out 2;have v0:=cell_blk L2.out 0 rfl;have v1:=cell_blk L2.out 1 rfl;have v2:=cell_blk L2.out 2 rfl))
 refine bodyPost_ret (v:=.tuple #[.agg #[.int .i64 bv,.string bsp,.slice ra6 nx rc6],.nilIface]) ?_ rfl ⟨_,rfl,?_,grown_set (grown_set (grown_set HG11.out (.inl (Nat.le_refl _)) _) (.inl (Nat.le_refl _)) _) (.inl (Nat.le_refl _)) _⟩
 ·exact results_rowT Tryz.results12 _ _ w.heap.size _ _ (0,0) _ _ rfl (set3 L2.out) Tryz.underlying24 rfl hI rfl
 ·exact A11.out.upto9 (F:=fun k=>k=w.heap.size) (fun k hk h=>HNb.out _ M2.out (by rw[Q7.out] at hk;have:=Option.some.inj hk;omega)) upto3c
theorem bBytes_no (A:Nat→Addr) (v:Int) (sp:ByteArray) (a:Value) (l:List An) (w:World) (hA:Ans w a l) (hr:right ⟨v,sp,l⟩=false) (hl:l.length≤1000) (hk:∀ x∈l,x.k.size≤1000) (hsp:sp.size≤1000) (hE:AllErrs w A) :
  Calls Tryz.prog 6 #[.agg #[.int .i64 v,.string sp,a]] w fun e w'=>e=.returned (.tuple #[.slice none 0 0,errV A 4])∧w.grownBy w' none:=by
 have hI:(Tryz.prog.info? 24).map (·.size)=some 3:=bd_info
 obtain ⟨w1,hw1⟩:∃ w1,w1=w.alloc (.cells #[.int .i64 v,.string sp,a] 24):=⟨_,rfl⟩
 have hg1:w.grownBy w1 none:=by rw[hw1];exact World.grownBy_alloc _ _ _
 have b0:w1.heap[w.heap.size]?=some (.cells #[.int .i64 v,.string sp,a] 24 (0,0)):=by rw[hw1];exact alloc_at _ _
 have hRt:=bright_any A v sp a l w1 (hA.grown hg1) hl hk hsp (hE.grown hg1)
 rw[hr] at hRt
 have HRt:=hid hRt
 have HEr:Hid (∀ W,w.grownBy W none→W.cell? ⟨0,0,none⟩=some (errV A 4)):=hid (fun W hW=>by
  have e4:=errs_at (hE.grown hW) 4 (by decide)
  simp only[errVars,List.getD_cons_zero,List.getD_cons_succ,Nat.add_one_sub_one] at e4
  exact e4)
 obtain ⟨a1,ag,ao,c1,rfl,-,-,-⟩:=hA.form
 generalize l.length=n at *
 have HW1:=hid hw1
 have HB0:=hid b0
 have HG1:=hid hg1
 clear hA hr hl hk hsp hE hw1 hg1 b0 hRt
 go_enter Tryz.func6,Tryz.ntmps6
 go_wp2_with (first
  |(rw[←HW1.out];refine wpList_load_row (by rfl) 24 (.tmp 1) (by rfl) w.heap.size (by rfl) 24 #[.int .i64 v,.string sp,.slice a1 n c1] (0,0) _ HB0.out Tryz.underlying24 rfl hI ?_)
  |(go_at_call 8;(try rw[←HW1.out]);refine HRt.out.mono ?_;rintro e w2 ⟨rfl,hg2⟩;have HG2:=hid (grown_trans HG1.out hg2);have he:=HEr.out _ HG2.out;clear hg2))
 go_quiet (fail)
 go_wp2
 go_ret2
 exact ⟨rfl,grown_drewN HG2.out _⟩
theorem own_emptyC {w:World} {base:Nat} (hb:base≤w.heap.size) (e:TypeId):(w.alloc (.cells #[] e)).ownsRow base e 1 (.slice (some ⟨w.heap.size,0,none⟩) 0 0) 0 [] :=
 ⟨rfl,.inr ⟨w.heap.size,0,#[],rfl,hb,alloc_at _ _,Nat.le_refl _,by unfold maxLen;omega,rfl,rfl⟩⟩
theorem filt_take {l:List An} {j:Nat} (h:j<l.length):(l.take (j+1)).map (·.g)=(l.take j).map (·.g)++[(l.getD j an0).g]:=by
 rw[take_snoc h,List.map_append];rfl
theorem bbytes_any (A:Nat→Addr) (v:Int) (sp:ByteArray) (a:Value) (l:List An) (w:World) (hA:Ans w a l) (hB:BodiesOf A w) (hR:ReadsOf A w) (hv1 : -9223372036854775808≤v) (hv2:v≤9223372036854775807) :
  Calls Tryz.prog 3 #[.agg #[.int .i64 v,.string sp,a]] w fun e w'=>e=.returned (.bool true)∧w.grownBy w' none:=by
 have hI:=bd_info
 have hJ:=rbd_info
 have hIa:=an_info
 have hJa:=ran_info
 obtain ⟨w1,hw1⟩:∃ w1,w1=w.alloc (.cells #[.int .i64 v,.string sp,a] 24):=⟨_,rfl⟩
 have hg1:w.grownBy w1 none:=by rw[hw1];exact World.grownBy_alloc _ _ _
 have b0:w1.heap[w.heap.size]?=some (.cells #[.int .i64 v,.string sp,a] 24 (0,0)):=by rw[hw1];exact alloc_at _ _
 have HAl:=hid (alive13_any w1 (BodiesOf.up9 hB hg1))
 have HLo:=hid (fun W (hW:w.grownBy W none)=>longB_any v sp a l W (hA.grown hW))
 have HNm:=hid (fun W (hW:w.grownBy W none)=>(by
  have:=num_of A 4 (by decide) W (hB.errs.grown hW)
  rw[errOf,if_neg (by decide),show ((4:Nat):Int)=4 from rfl] at this
  exact this:Calls Tryz.prog 11 #[errV A 4] W fun e w'=>e=.returned (.int .i64 4)∧W.grownBy w' none))
 have HAg:=hid (fun W (hW:w.grownBy W none)=>hA.grown hW)
 cases hlb:longB sp l with
 |true =>
  rw[hlb] at HLo
  obtain ⟨a1,ag,ao,c1,rfl,-,-,-⟩:=hA.form
  generalize l.length=ln at *
  have HW1:=hid hw1
  have HB0:=hid b0
  have HG1:=hid hg1
  clear hA hB hR hv1 hv2 hw1 hg1 b0 hlb HAg HNm
  go_enter Tryz.func3,Tryz.ntmps3
  go_wp2_with (first
   |(go_at_call 4;rw[←HW1.out];refine HAl.out.mono ?_;rintro e w2 ⟨rfl,hg2⟩;have HG2:=hid (grown_trans HG1.out hg2);have HB2:=hid (hold_b3 HB0.out hg2);clear hg2)
   |(refine wpList_load_row (by rfl) 24 (.tmp 1) (by rfl) w.heap.size (by rfl) 24 #[.int .i64 v,.string sp,.slice a1 ln c1] (0,0) _ HB2.out Tryz.underlying24 rfl hI ?_)
   |(go_at_call 5;refine (HLo.out _ HG2.out).mono ?_;rintro e w3 ⟨rfl,hg3⟩;have HG3:=hid (grown_trans HG2.out hg3);clear hg3))
  go_ret
  exact ⟨rfl,HG3.out⟩
 |false =>
  rw[hlb] at HLo
  obtain ⟨k1,k2,k3⟩:=longB_ok hlb
  have hl9:l.length≤900:=by omega
  have hk9:∀ x∈l,x.k.size≤1000:=fun x hx=>by have:=k3 x hx;omega
  have hs9:sp.size≤1000:=by omega
  have HOf:=hid (fun p W (hp:Ans W p l)=>ofB_any v sp p l W hp (by omega))
  have HRt:=hid (fun p W (hW:w.grownBy W none) (hp:Ans W p l)=>bright_any A v sp p l W hp (by omega) hk9 hs9 (hB.errs.grown hW))
  have HRd:=hid (fun p W (hp:Ans W p l)=>refRightB_any v sp p l W hp (by omega) hk9 hs9)
  have HSb:=hid (fun p W (hp:Ans W p l)=>(bsame_any v v sp sp p p l l W hp hp (by omega) (by omega)).mono (fun e w' (h:(∃ q:Bool,e=.returned (.bool q)∧(q=true↔(v=v∧sp=sp∧l=l)))∧W.grownBy w' none)=>(show e=.returned (.bool true)∧W.grownBy w' none from by
   obtain ⟨⟨r,he,hr⟩,hg⟩:=h
   rw[hr.2 ⟨rfl,rfl,rfl⟩] at he
   exact ⟨he,hg⟩)))
  cases hrt:right ⟨v,sp,l⟩ with
  |false =>
   rw[hrt] at HRt HRd
   have HBy:=hid (fun p W (hW:w.grownBy W none) (hp:Ans W p l)=>bBytes_no A v sp p l W hp hrt (by omega) hk9 hs9 (hB.errs.grown hW))
   obtain ⟨a1,ag,ao,c1,rfl,-,-,-⟩:=hA.form
   obtain ⟨ln,hln⟩:∃ ln,ln=l.length:=⟨_,rfl⟩
   have HLn:=hid hln
   rw[←hln] at HLo HAg hw1 b0 ⊢
   have HW1:=hid hw1
   have HB0:=hid b0
   have HG1:=hid hg1
   clear hA hB hR hv1 hv2 hw1 hg1 b0 hlb hrt k1 k2 k3 hl9 hk9 hs9 hln
   go_enter Tryz.func3,Tryz.ntmps3
   go_wp2_with (first
    |(go_at_call 4;rw[←HW1.out];refine HAl.out.mono ?_;rintro e w2 ⟨rfl,hg2⟩;have HG2:=hid (grown_trans HG1.out hg2);have HB2:=hid (hold_b3 HB0.out hg2);clear hg2)
    |(refine wpList_load_row (by rfl) 24 (.tmp 1) (by rfl) w.heap.size (by rfl) 24 #[.int .i64 v,.string sp,.slice a1 ln c1] (0,0) _ HB2.out Tryz.underlying24 rfl hI ?_)
    |(go_at_call 5;refine (HLo.out _ HG2.out).mono ?_;rintro e w3 ⟨rfl,hg3⟩;have HG3:=hid (grown_trans HG2.out hg3);have HB3:=hid (hold_b3 HB2.out hg3);clear hg3)
    |(refine wpList_load_row (by rfl) 24 (.tmp 1) (by rfl) w.heap.size (by rfl) 24 #[.int .i64 v,.string sp,.slice a1 ln c1] (0,0) _ HB3.out Tryz.underlying24 rfl hI ?_)
    |(go_at_call 6;refine (HBy.out _ _ HG3.out (HAg.out _ HG3.out)).mono ?_;rintro e w4 ⟨rfl,hg4⟩;have HG4:=hid (grown_trans HG3.out hg4);have HB4:=hid (hold_b3 HB3.out hg4);clear hg4)
    |(refine wpList_load_row (by rfl) 24 (.tmp 1) (by rfl) w.heap.size (by rfl) 24 #[.int .i64 v,.string sp,.slice a1 ln c1] (0,0) _ HB4.out Tryz.underlying24 rfl hI ?_)
    |(go_at_call 7;refine (HOf.out _ _ (HAg.out _ HG4.out)).mono ?_;rintro e w5 ⟨p5,rfl,ha5,hf5,hg5⟩;obtain ⟨a5,g5,o5,c5,rfl,-,-,-⟩:=ha5.form;have HA5:=hid ha5;have HG5:=hid (grown_trans HG4.out hg5);have HB5:=hid (hold_b3 HB4.out hg5);clear ha5 hf5 hg5))
   obtain ⟨w6,hw6⟩:∃ w6,w6=w5.alloc (.cells #[.int .i64 v,.string sp,.slice a5 l.length c5] 34):=⟨_,rfl⟩
   have hg6:w5.grownBy w6 none:=by rw[hw6];exact World.grownBy_alloc _ _ _
   have HG6:=hid (grown_trans HG5.out hg6)
   have HB6:=hid (hold_b3 HB5.out hg6)
   have HC6:Hid (w6.heap[w5.heap.size]?=some (.cells #[.int .i64 v,.string sp,.slice a5 l.length c5] 34 (0,0))):=hid (by rw[hw6];exact alloc_at _ _)
   have HA6:=hid (HA5.out.grown hg6)
   try rw[←hw6]
   clear hw6 hg6
   refine bb_region7 _ w.heap.size w5.heap.size #[.int .i64 v,.string sp,.slice a1 ln c1] #[.int .i64 v,.string sp,.slice a5 l.length c5] false w6 _ _ rfl rfl rfl (fun W hW=>(HRt.out _ W (grown_trans HG6.out hW) (HAg.out W (grown_trans HG6.out hW))).mono (fun e w' h=>⟨_,h.1,h.2,rfl⟩)) (fun W hW=>(HRd.out _ W (HA6.out.grown hW)).mono (fun e w' h=>⟨_,h.1,h.2,rfl⟩)) (fun W hW=>(HSb.out _ W (HAg.out W (grown_trans HG6.out hW))).mono (fun e w' h=>⟨_,h.1,h.2,rfl⟩)) (fun W hW=>hold_b3 HB6.out hW) (fun W hW=>hold_b3 HC6.out hW) hI hJ (grown_drewN (grown_refl _ _) 1) (fun us w7 hg7=>?_)
   simp only[fill_cons,fill_nil,Act.put,List.setIfInBounds_toArray,List.set_cons_succ,List.set_cons_zero]
   have HG7:=hid (grown_trans HG6.out hg7)
   have HC7:=hid (hold_b3 HC6.out hg7)
   have HA7:=hid (HA6.out.grown hg7)
   clear hg7
   go_wp2_with (first
    |(refine wpList_load_row (by rfl) 34 (.tmp 5) (by rfl) w5.heap.size (by rfl) 34 #[.int .i64 v,.string sp,.slice a5 l.length c5] (0,0) _ HC7.out Tryz.underlying34 rfl hJ ?_)
    |(go_at_call 9;refine (HRd.out _ _ HA7.out).mono ?_;rintro e w8 ⟨rfl,hg8⟩;have HG8:=hid (grown_trans HG7.out hg8);clear hg8)
    |(go_at_call 11;refine (HNm.out _ HG8.out).mono ?_;rintro e w9 ⟨rfl,hg9⟩;have HG9:=hid (grown_trans HG8.out hg9);clear hg9))
   go_ret
   exact ⟨rfl,HG9.out⟩
  |true =>
   rw[hrt] at HRt HRd
   have hdn:=done_bd hrt
   have hbl:=(bb_ok hrt).2.1
   have HBy:=hid (fun p W (hW:w.grownBy W none) (hp:Ans W p l)=>(by
    have:=bBytes_any (A:=A) v sp p l W hp hrt hk9 hs9 (BodiesOf.up9 hB hW)
    rw[hdn] at this
    exact this:Calls Tryz.prog 6 #[.agg #[.int .i64 v,.string sp,p]] W fun e w'=>W.grownBy w' none∧PDnPost A W w' (.ok (BB ⟨v,sp,l⟩)) e))
   have HRe:=hid (fun va n vc W (hW:w.grownBy W none) (hx:Bytes W (.slice va n vc) (BB ⟨v,sp,l⟩)) (h0:Whole0 (.slice va n vc)) (hn:n=(BB ⟨v,sp,l⟩).length)=>bRead_any A va n vc ⟨v,sp,l⟩ W hx h0 hn hrt (hR.upB hW) (BodiesOf.up9 hB hW))
   have HDb:=hid (fun p W (hp:Ans W p l)=>refBbytes_ok v sp p l W hp hrt)
   have HGe:=hid (fun p W (hp:Ans W p l)=>bgens_any v sp p l W hp (by omega))
   have HSr:=hid (fun p q W (hp:Ans W p l) (hq:Ans W q l)=>(refSameB_any v v sp sp p q l l W hp hq (by omega) (by omega)).mono (fun e w' (h:(∃ r:Bool,e=.returned (.bool r)∧(r=true↔(v=v∧sp=sp∧l=l)))∧W.grownBy w' none)=>(show e=.returned (.bool true)∧W.grownBy w' none from by
    obtain ⟨⟨r,he,hr⟩,hg⟩:=h
    rw[hr.2 ⟨rfl,rfl,rfl⟩] at he
    exact ⟨he,hg⟩)))
   have HSi:=hid (fun p q W (hp:Ints W p (l.map (·.g))) (hq:Ints W q (l.map (·.g)))=>sameI_yes p q (l.map (·.g)) W hp hq (by rw[List.length_map];omega))
   obtain ⟨BY,hBY⟩:∃ BY,BY=BB ⟨v,sp,l⟩:=⟨_,rfl⟩
   rw[←hBY] at HBy HRe HDb hbl
   obtain ⟨a1,ag,ao,c1,rfl,-,-,-⟩:=hA.form
   obtain ⟨ln,hln⟩:∃ ln,ln=l.length:=⟨_,rfl⟩
   have HLn:=hid hln
   rw[←hln] at HLo HAg hw1 b0 ⊢
   have HW1:=hid hw1
   have HB0:=hid b0
   have HG1:=hid hg1
   have HL9:=hid hl9
   clear hA hB hR hv1 hv2 hw1 hg1 b0 hlb hrt k1 k2 k3 hl9 hk9 hs9 hln hdn hbl hBY
   go_enter Tryz.func3,Tryz.ntmps3
   go_wp2_with (first
    |(go_at_call 4;rw[←HW1.out];refine HAl.out.mono ?_;rintro e w2 ⟨rfl,hg2⟩;have HG2:=hid (grown_trans HG1.out hg2);have HB2:=hid (hold_b3 HB0.out hg2);clear hg2)
    |(refine wpList_load_row (by rfl) 24 (.tmp 1) (by rfl) w.heap.size (by rfl) 24 #[.int .i64 v,.string sp,.slice a1 ln c1] (0,0) _ HB2.out Tryz.underlying24 rfl hI ?_)
    |(go_at_call 5;refine (HLo.out _ HG2.out).mono ?_;rintro e w3 ⟨rfl,hg3⟩;have HG3:=hid (grown_trans HG2.out hg3);have HB3:=hid (hold_b3 HB2.out hg3);clear hg3)
    |(refine wpList_load_row (by rfl) 24 (.tmp 1) (by rfl) w.heap.size (by rfl) 24 #[.int .i64 v,.string sp,.slice a1 ln c1] (0,0) _ HB3.out Tryz.underlying24 rfl hI ?_)
    |(go_at_call 6;refine (HBy.out _ _ HG3.out (HAg.out _ HG3.out)).mono ?_;rintro e w4 ⟨hg4,-,a4,c4,rfl,hb4,h04⟩;have HX4:=hid hb4;have H04:=hid h04;have HG4:=hid (grown_trans HG3.out hg4);have HB4:=hid (hold_b3 HB3.out hg4);clear hg4 hb4 h04)
    |(refine wpList_load_row (by rfl) 24 (.tmp 1) (by rfl) w.heap.size (by rfl) 24 #[.int .i64 v,.string sp,.slice a1 ln c1] (0,0) _ HB4.out Tryz.underlying24 rfl hI ?_)
    |(go_at_call 7;refine (HOf.out _ _ (HAg.out _ HG4.out)).mono ?_;rintro e w5 ⟨p5,rfl,ha5,hf5,hg5⟩;obtain ⟨a5,g5,o5,c5,rfl,-,-,-⟩:=ha5.form;rw[←HLn.out] at ha5 ⊢;have HA5:=hid ha5;have HX5:=hid (HX4.out.grown hg5);have HG5:=hid (grown_trans HG4.out hg5);have HB5:=hid (hold_b3 HB4.out hg5);clear ha5 hf5 hg5))
   obtain ⟨w6,hw6⟩:∃ w6,w6=w5.alloc (.cells #[.int .i64 v,.string sp,.slice a5 ln c5] 34):=⟨_,rfl⟩
   have hg6:w5.grownBy w6 none:=by rw[hw6];exact World.grownBy_alloc _ _ _
   have HG6:=hid (grown_trans HG5.out hg6)
   have HB6:=hid (hold_b3 HB5.out hg6)
   have HC6:Hid (w6.heap[w5.heap.size]?=some (.cells #[.int .i64 v,.string sp,.slice a5 ln c5] 34 (0,0))):=hid (by rw[hw6];exact alloc_at _ _)
   have HA6:=hid (HA5.out.grown hg6)
   have HX6:=hid (HX5.out.grown hg6)
   try rw[←hw6]
   clear hw6 hg6
   refine bb_region7 _ w.heap.size w5.heap.size #[.int .i64 v,.string sp,.slice a1 ln c1] #[.int .i64 v,.string sp,.slice a5 ln c5] true w6 _ _ rfl rfl rfl (fun W hW=>(HRt.out _ W (grown_trans HG6.out hW) (HAg.out W (grown_trans HG6.out hW))).mono (fun e w' h=>⟨_,h.1,h.2,rfl⟩)) (fun W hW=>(HRd.out _ W (HA6.out.grown hW)).mono (fun e w' h=>⟨_,h.1,h.2,rfl⟩)) (fun W hW=>(HSb.out _ W (HAg.out W (grown_trans HG6.out hW))).mono (fun e w' h=>⟨_,h.1,h.2,rfl⟩)) (fun W hW=>hold_b3 HB6.out hW) (fun W hW=>hold_b3 HC6.out hW) hI hJ (grown_drewN (grown_refl _ _) 1) (fun us w7 hg7=>?_)
   simp only[fill_cons,fill_nil,Act.put,List.setIfInBounds_toArray,List.set_cons_succ,List.set_cons_zero]
   have HG7:=hid (grown_trans HG6.out hg7)
   have HB7:=hid (hold_b3 HB6.out hg7)
   have HC7:=hid (hold_b3 HC6.out hg7)
   have HA7:=hid (HA6.out.grown hg7)
   have HX7:=hid (HX6.out.grown hg7)
   obtain ⟨m4,hm4⟩:∃ m4,m4=BY.length:=⟨_,rfl⟩
   have HM4:=hid hm4
   rw[←hm4] at HX7 H04 ⊢
   clear hg7 hm4
   go_wp2_with (first
    |(refine wpList_load_row (by rfl) 34 (.tmp 5) (by rfl) w5.heap.size (by rfl) 34 #[.int .i64 v,.string sp,.slice a5 ln c5] (0,0) _ HC7.out Tryz.underlying34 rfl hJ ?_)
    |(go_at_call 9;refine (HRd.out _ _ HA7.out).mono ?_;rintro e w8 ⟨rfl,hg8⟩;have HG8:=hid (grown_trans HG7.out hg8);have HX8:=hid (HX7.out.grown hg8);have HB8:=hid (hold_b3 HB7.out hg8);have HC8:=hid (hold_b3 HC7.out hg8);have HA8:=hid (HA7.out.grown hg8);clear hg8)
    |(go_at_call 12;refine (HRe.out _ _ _ _ HG8.out HX8.out H04.out HM4.out).mono ?_;rintro e w9 ⟨p9,rfl,ha9,hg9⟩;obtain ⟨a9,g9,o9,c9,rfl,-,-,-⟩:=ha9.form;replace ha9:Ans w9 (.slice a9 l.length c9) l:=ha9;rw[←HLn.out] at ha9;(try rw[←HLn.out]);have HA9k:=hid ha9;have HG9:=hid (grown_trans HG8.out hg9);have HX9:=hid (HX8.out.grown hg9);have HB9:=hid (hold_b3 HB8.out hg9);have HC9:=hid (hold_b3 HC8.out hg9);have HA9:=hid (HA8.out.grown hg9);obtain ⟨w10,hw10⟩:∃ w10,w10=(w9.alloc (.cells #[.int .i64 v,.string sp,.slice a9 ln c9] 24)):=⟨_,rfl⟩;have HW10:=hid hw10;have d2:=cell_blk (alloc_keep (o:=.cells #[] 3) (alloc_keep (o:=.cells #[.int .i64 v,.string sp,.slice a9 ln c9] 24) HC9.out)) 2 rfl;clear ha9 hg9 hw10))
   rw[←HW10.out]
   have hg10:w9.grownBy w10 none:=by rw[HW10.out];exact World.grownBy_alloc _ _ _
   have hs10:w10.heap.size=w9.heap.size+1:=by rw[HW10.out];exact alloc_size _ _
   have HG10:=hid (grown_trans HG9.out hg10)
   have HX10:=hid (HX9.out.grown hg10)
   have HB10:=hid (hold_b3 HB9.out hg10)
   have HC10:=hid (hold_b3 HC9.out hg10)
   have HD10:Hid (w10.heap[w9.heap.size]?=some (.cells #[.int .i64 v,.string sp,.slice a9 ln c9] 24 (0,0))):=hid (by rw[HW10.out];exact alloc_at _ _)
   have HA10:=hid (HA9.out.grown hg10)
   have HK10:=hid (HA9k.out.grown hg10)
   have HS10:=hid hs10
   have HO10:Hid ((w10.alloc (.cells #[] 3)).ownsRow (w9.heap.size+1) 3 1 (.slice (some ⟨w9.heap.size+1,0,none⟩) 0 0) 0 (cellsI ((l.take 0).map (·.g)))):=hid (by
    have:=own_emptyC (w:=w10) (Nat.le_refl _) 3
    rw[hs10] at this
    rw[List.take_zero]
    exact this)
   have HGa:=hid (World.grownBy_alloc w10 (.cells #[] 3) none)
   obtain ⟨_,g5',s5',c5',hv5,ha5',_,hx5⟩:=HA10.out.form
   have HXc:=hid (Ans.cells_at ha5' hx5)
   rw[←HLn.out] at hv5
   simp only[Value.slice.injEq] at hv5
   obtain ⟨rfl,_,rfl⟩:=hv5
   have HA5p:Hid (0<ln→a5=some ⟨g5',s5',none⟩):=hid (fun h=>(ha5' (by have:=HLn.out;omega)).1)
   have HTk:=hid (fun j (hj:j<ln)=>filt_take (by have:=HLn.out;omega:j<l.length))
   have HTa:Hid ((l.take ln).map (·.g)=l.map (·.g)):=hid (by rw[HLn.out,List.take_length])
   have hIf:=i_full
   have HLs:Hid (ln≤900):=hid (by have:=HL9.out;have:=HLn.out;omega)
   rw[←HLn.out] at HXc
   clear hg10 hs10 ha5' hx5
   go_loopw [53,8] (fun i o wr=>∃ (j:Nat),j≤ln∧i=.int .i64 (j:Int)∧w10.grownBy wr none∧wr.ownsRow (w9.heap.size+1) 3 1 o j (cellsI ((l.take j).map (·.g)))) (fun i _ _=>ln-(intOf i).toNat)
   case atStart=>exact ⟨0,Nat.zero_le _,rfl,HGa.out,HO10.out⟩
   case round =>
    obtain ⟨j,hj,rfl,hg,ho⟩:=hrel
    have HG:=hid hg
    have HO:=hid ho
    obtain ⟨oa,og,oc,rfl,-⟩:=own_formN ho
    clear hg ho
    by_cases hjN:j<ln
    ·obtain ⟨x0,x1,x2,x3⟩:=HXc.out wr HG.out j hjN
     obtain rfl:=HA5p.out (by omega)
     have HTj:=hid (HTk.out j hjN)
     have hl9:=HLs.out
     generalize (l.getD j an0).g=p1 at *
     generalize (l.getD j an0).k=p2 at *
     generalize (l.getD j an0).f=p3 at *
     generalize (l.getD j an0).t=p4 at *
     go_wp2_with (at_builtin;refine wpList_appI (by rfl) (.tmp 57) (.tmp 60) 41 (by rfl) (w9.heap.size+1) 3 (.int .i64 0) 8 Tryz.underlying41 hIf rfl (by decide) _ _ _ (by rfl) ((HO.out.alloc _).alloc _) _ _ (by rfl) (Ints.lit (l:=[p1]) (alloc2_new _ _ _)) (Whole0.some _ _ _) (by show j+1≤_;omega) (by have:=(grown_alloc (grown_alloc HG.out (.cells #[.int .i64 p1,.string p2,.int .i64 p3,.int .i64 p4] 43)) (.cells #[.int .i64 p1] 3)).size;have:=HS10.out;omega) ?_;intro v5 w5' ho hg;have HO5:=hid ho;have HG5':Hid (w10.grownBy w5' none):=hid (grown_own (grown_alloc (grown_alloc HG.out _) _) ((HO.out.alloc _).alloc _) (Nat.le_of_eq HS10.out) hg);clear ho hg)
     have HF:Hid (w5'.ownsRow (w9.heap.size+1) 3 1 v5 (j+1) (cellsI ((l.take (j+1)).map (·.g)))):=hid (by
      have h:=HO5.out
      rw[HTj.out]
      unfold cellsI at h ⊢
      rw[List.map_append]
      exact h)
     go_roundw
     case rel=>exact ⟨j+1,by omega,by go_num,HG5'.out,HF.out⟩
     case measure=>simp[intOf] <;> omega
    ·obtain rfl:j=ln:=by omega
     rw[HTa.out] at HO
     have HIn:=hid (Ints.own HO.out)
     go_wp2
     refine bb_region18 _ w.heap.size w5.heap.size w9.heap.size 0 #[.int .i64 v,.string sp,.slice a1 j c1] #[.int .i64 v,.string sp,.slice a5 j c5] #[.int .i64 v,.string sp,.slice a9 j c9] ⟨v,sp,l⟩ BY (l.map (·.g)) a4 oa m4 c4 j oc (strOf BY) wr _ _ rfl rfl rfl rfl rfl rfl rfl rfl
      (fun W hW=>(HDb.out _ W (HA10.out.grown (grown_trans HG.out hW))).mono (fun e w' ⟨u,h1,h2,h3⟩=>⟨u,h1,h2,h3⟩))
      (fun W hW=>(HOf.out _ W (HK10.out.grown (grown_trans HG.out hW))).mono (fun e w' ⟨p,h1,h2,_,h3⟩=>⟨_,h1,h3,⟨p,rfl,h2⟩⟩))
      (fun W u hW hu=>by
       obtain ⟨q,rfl,hq⟩:=hu
       exact (HSr.out q _ W hq (HA10.out.grown (grown_trans HG.out hW))).mono (fun e w' h=>⟨_,h.1,h.2,rfl⟩))
      (fun W hW=>(HGe.out _ W (HAg.out W (grown_trans HG10.out (grown_trans HG.out hW)))).mono (fun e w' ⟨p,h1,h2,_,h3⟩=>⟨p,h1,h3,h2⟩))
      (fun W u hW hu=>(HSi.out u _ W hu (HIn.out.grown hW)).mono (fun e w' h=>⟨_,h.1,h.2,rfl⟩))
      (fun W hW=>conv_bytes (HX10.out.grown (grown_trans HG.out hW)) _ _ _ Tryz.underlying27 Tryz.underlying5 Tryz.underlying9)
      (fun W u hu=>conv_bytes (show Bytes W u BY from hu) _ _ _ Tryz.underlying27 Tryz.underlying5 Tryz.underlying9)
      (fun W hW=>hold_b3 HB10.out (grown_trans HG.out hW)) (fun W hW=>hold_b3 HC10.out (grown_trans HG.out hW)) (fun W hW=>hold_b3 HD10.out (grown_trans HG.out hW)) hI hJ hI (grown_drewN (grown_refl _ _) 1) (fun us w20 hg20=>?_)
     simp only[fill_cons,fill_nil,Act.put,List.setIfInBounds_toArray,List.set_cons_succ,List.set_cons_zero]
     have HG20:=hid (grown_trans HG10.out (grown_trans HG.out hg20))
     clear hg20
     go_wp2
     go_ret
     exact ⟨rfl,HG20.out⟩
end Go.Proofs.YtjjbkpjjmbfdhaaGreatDoor
