import Derived.Test.YtijkaknggdaajaaGreatDoorZr39
set_option linter.unusedVariables false
set_option linter.unusedSimpArgs false
set_option maxRecDepth 100000
set_option maxHeartbeats 16000000
namespace Go.Proofs.YtijkaknggdaajaaGreatDoor
open Lib (hid)
open Go.RowKit
def HitO (l:List Na.Pr) (k:Nat):Prop:=Na.right (Na.cand k l)=true∧Na.parts (Na.cand k l)=l
def RO9 (l:List Na.Pr) (e:Ending):Prop:=(∃ s,e=.returned (.tuple #[Na.val s,.bool true])∧Na.right s=true∧Na.parts s=l)∨(e=.returned (.tuple #[Na.val ⟨0,Na.e0,Na.e0⟩,.bool false])∧∀ k:Nat,1≤k→k≤5→¬ HitO l k)
theorem RO9.yes {l:List Na.Pr} {s:Na.Sb} (h1:Na.right s=true) (h2:Na.parts s=l):RO9 l (.returned (.tuple #[Na.val s,.bool true])):=.inl ⟨s,rfl,h1,h2⟩
theorem parts_len (s:Na.Sb):(Na.parts s).length≤3:=by
 unfold Na.parts
 split <;> simp
theorem refOf9_any (v:Value) (l:List Na.Pr) (w:World) (hP:Prts w v l) (hl:l.length≤2000) (hsz:∀ p∈l,p.2.size≤900):Calls Tryz.prog 85 #[v] w fun e w'=>RO9 l e∧w.grownBy w' none:=by
 have hI:(Tryz.prog.info? 23).map (·.size)=some 3:=by kernel_rfl
 have HRes0:=hid (alloc_at w (.cells #[.int .i64 0,.string ⟨#[]⟩,.string ⟨#[]⟩] 23))
 have HG0:=hid (grown_alloc (grown_refl w none) (.cells #[.int .i64 0,.string ⟨#[]⟩,.string ⟨#[]⟩] 23))
 obtain ⟨a2,b2,s2,c2,rfl,ha2,hx2⟩:=hP
 have HX2:=hid (fun W (hg:w.grownBy W none) i (hi:i<l.length)=>(show W.cell? ⟨b2,s2+i*2,none⟩=some (.string (l.getD i (Na.e0,Na.e0)).1)∧W.cell? ⟨b2,s2+i*2+1,none⟩=some (.string (l.getD i (Na.e0,Na.e0)).2) from by
  have hb:=hg.block b2 (ha2 (by omega)).2 (by simp)
  exact ⟨(World.cell?_of_block hb).trans (hx2 i hi).1,(World.cell?_of_block hb).trans (hx2 i hi).2⟩))
 have HSz:Hid (∀ i,i<l.length→(l.getD i (Na.e0,Na.e0)).2.size≤900):=hid (fun i hi=>by
  rw[List.getD_eq_getElem?_getD,List.getElem?_eq_getElem hi]
  exact hsz _ (List.getElem_mem hi))
 obtain ⟨N,hN⟩:∃ N,N=l.length:=⟨_,rfl⟩
 have HNl:=hid hN
 have HA2:Hid (0<N→a2=some ⟨b2,s2,none⟩):=hid (fun h=>(ha2 (by omega)).1)
 have HB2:Hid (0<N→b2<w.heap.size):=hid (fun h=>(ha2 (by omega)).2)
 rw[←hN] at HX2 HSz ⊢
 have hNl:N≤2000:=by omega
 have HCd:Hid (∀ k:Nat,Na.cand k l=⟨(k:Int),if (k:Int)=2∧1<N then (l.getD 1 (Na.e0,Na.e0)).2 else Na.e0,if 0<N then (l.getD (N-1) (Na.e0,Na.e0)).2 else Na.e0⟩):=hid (fun k=>by rw[hN];rfl)
 clear ha2 hx2 hsz hl hN
 go_enter Tryz.func85,Tryz.ntmps85
 go_wp2
 go_loopw [4] (fun i wr=>∃ k:Nat,1≤k∧k≤6∧i=.int .i64 (k:Int)∧w.grownBy wr none∧wr.heap[w.heap.size]?=some (.cells #[.int .i64 0,.string ⟨#[]⟩,.string ⟨#[]⟩] 23 (0,0))∧∀ j:Nat,1≤j→j<k→¬ HitO l j) (fun i _=>6-(intOf i).toNat)
 case atStart=>exact ⟨1,by omega,by omega,rfl,HG0.out,HRes0.out,fun j hj1 hj2=>by omega⟩
 case round =>
  obtain ⟨k,hk1,hk6,rfl,hg,hres,h0⟩:=hrel
  have HG1:=hid hg
  have HRes1:=hid hres
  have H0:=hid h0
  clear hg hres h0 HRes0 HG0
  by_cases hk:k=6
  ·subst hk
   have y0:=free_blk HRes1.out 0
   have y1:=free_blk HRes1.out 1
   have y2:=free_blk HRes1.out 2
   have z0:=cell_blk HRes1.out 0 rfl
   have z1:=cell_blk HRes1.out 1 rfl
   have z2:=cell_blk HRes1.out 2 rfl
   go_wp2
   refine bodyPost_ret (v:=.tuple #[.agg #[.int .i64 0,.string ⟨#[]⟩,.string ⟨#[]⟩],.bool false]) ?_ rfl ⟨.inr ⟨rfl,fun k h1 h5=>H0.out k h1 (by omega)⟩,grown_set (grown_set (grown_set HG1.out (.inl (Nat.le_refl _)) _) (.inl (Nat.le_refl _)) _) (.inl (Nat.le_refl _)) _⟩
   exact results_rowT Tryz.results85 _ _ w.heap.size _ _ (0,0) _ _ rfl (set3 HRes1.out) Tryz.underlying23 rfl hI rfl
  ·have hk5:k≤5:=by omega
   clear hk hk6
   have hcd:=HCd.out k
   obtain ⟨w1,hw1⟩:∃ x,x=wr:=⟨_,rfl⟩
   subst hw1
   have HB:=hid (alloc_at w1 (.cells #[.int .i64 (k:Int),.string ⟨#[]⟩,.string ⟨#[]⟩] 23))
   have HResB0:=hid (alloc_keep (o:=.cells #[.int .i64 (k:Int),.string ⟨#[]⟩,.string ⟨#[]⟩] 23) HRes1.out)
   have HGB0:=hid (grown_alloc HG1.out (.cells #[.int .i64 (k:Int),.string ⟨#[]⟩,.string ⟨#[]⟩] 23))
   have HSb:=hid HG1.out.size
   have HSbr:Hid (w.heap.size<w1.heap.size):=hid (blk_lt HRes1.out)
   by_cases hkE:k=2
   ·have hk2:((k:Int)==2)=true:=by rw[hkE];rfl
    by_cases hN0:N=0
    ·rw[if_neg (by omega),if_neg (by omega)] at hcd
     have HCand:Hid (Na.cand k l=⟨(k:Int),(⟨#[]⟩:ByteArray),(⟨#[]⟩:ByteArray)⟩):=hid hcd
     have HszA:Hid ((⟨#[]⟩:ByteArray).size≤1000000∧(⟨#[]⟩:ByteArray).size≤1000000):=hid ⟨by decide,by decide⟩
     have hN0':¬ (0:Int)<(N:Int):=by omega
     have hN1':¬ (1:Int)<(N:Int):=by omega
     have HRow:=HB
     have HRes:=HResB0
     have HG:=HGB0
     clear hcd HB HResB0 HGB0
     have HkE:=hid hkE
     clear hkE hN0
     have HRt:=hid (fun W=>refRight9_any ⟨(k:Int),(⟨#[]⟩:ByteArray),(⟨#[]⟩:ByteArray)⟩ ⟨by show (-9223372036854775808:Int)≤k;omega,by show (k:Int)≤9223372036854775807;omega⟩ (show (⟨#[]⟩:ByteArray).size≤1000000 from HszA.out.1) (show (⟨#[]⟩:ByteArray).size≤1000000 from HszA.out.2) W)
     unfold Na.val at HRt
     simp only at HRt
     cases hr:Na.right ⟨(k:Int),(⟨#[]⟩:ByteArray),(⟨#[]⟩:ByteArray)⟩ with
     |false =>
      rw[hr] at HRt
      have HNo:Hid (∀ j:Nat,1≤j→j<k+1→¬ HitO l j):=hid (fun j hj1 hj2=>by
       rcases Nat.lt_or_ge j k with h|h
       ·exact H0.out j hj1 h
       ·obtain rfl:j=k:=by omega
        intro hh
        have h1:=hh.1
        rw[HCand.out,hr] at h1
        exact absurd h1 (by decide))
      clear hr
      go_wp2_with (first
       |(refine wpList_load_row (by rfl) 23 (.tmp 5) (by rfl) w1.heap.size (by rfl) 23 #[.int .i64 (k:Int),.string (⟨#[]⟩:ByteArray),.string (⟨#[]⟩:ByteArray)] (0,0) _ HRow.out Tryz.underlying23 rfl hI ?_)
       |(go_at_call 12;with_reducible refine (HRt.out _).mono ?_;rintro e wA ⟨rfl,hgA⟩;have HRowA:=hid (hold_blk HRow.out hgA);have HResA:=hid (hold_blk HRes.out hgA);have HGA:=hid (grown_trans HG.out hgA);clear hgA))
      go_roundw
      case rel=>exact ⟨k+1,by omega,by omega,by go_num,HGA.out,HResA.out,HNo.out⟩
      case measure=>simp[intOf] <;> omega
     |true =>
      rw[hr] at HRt
      have HPt:=hid (fun W=>refParts9_any ⟨(k:Int),(⟨#[]⟩:ByteArray),(⟨#[]⟩:ByteArray)⟩ hr W)
      unfold Na.val at HPt
      simp only at HPt
      have HY:Hid (Na.parts ⟨(k:Int),(⟨#[]⟩:ByteArray),(⟨#[]⟩:ByteArray)⟩=l→RO9 l (.returned (.tuple #[.agg #[.int .i64 (k:Int),.string (⟨#[]⟩:ByteArray),.string (⟨#[]⟩:ByteArray)],.bool true]))):=hid (fun h=>RO9.yes hr h)
      have HNo:Hid (Na.parts ⟨(k:Int),(⟨#[]⟩:ByteArray),(⟨#[]⟩:ByteArray)⟩≠l→∀ j:Nat,1≤j→j<k+1→¬ HitO l j):=hid (fun hne j hj1 hj2=>by
       rcases Nat.lt_or_ge j k with h|h
       ·exact H0.out j hj1 h
       ·obtain rfl:j=k:=by omega
        intro hh
        have h1:=hh.2
        rw[HCand.out] at h1
        exact hne h1)
      have hpl:=parts_len ⟨(k:Int),(⟨#[]⟩:ByteArray),(⟨#[]⟩:ByteArray)⟩
      have HPl:=hid hpl
      generalize Na.parts ⟨(k:Int),(⟨#[]⟩:ByteArray),(⟨#[]⟩:ByteArray)⟩=ps at *
      clear hr hpl
      go_wp2_with (first
       |(refine wpList_load_row (by rfl) 23 (.tmp 5) (by rfl) w1.heap.size (by rfl) 23 #[.int .i64 (k:Int),.string (⟨#[]⟩:ByteArray),.string (⟨#[]⟩:ByteArray)] (0,0) _ HRow.out Tryz.underlying23 rfl hI ?_)
       |(go_at_call 12;with_reducible refine (HRt.out _).mono ?_;rintro e wA ⟨rfl,hgA⟩;have HRowA:=hid (hold_blk HRow.out hgA);have HResA:=hid (hold_blk HRes.out hgA);have HGA:=hid (grown_trans HG.out hgA);clear hgA)
       |(refine wpList_load_row (by rfl) 23 (.tmp 5) (by rfl) w1.heap.size (by rfl) 23 #[.int .i64 (k:Int),.string (⟨#[]⟩:ByteArray),.string (⟨#[]⟩:ByteArray)] (0,0) _ HRowA.out Tryz.underlying23 rfl hI ?_)
       |(go_at_call 18;refine (HPt.out _).mono ?_;rintro e wB ⟨v1,rfl,hgB,ho⟩;have HRowB:=hid (hold_blk HRowA.out hgB);have HResB:=hid (hold_blk HResA.out hgB);have HGB:=hid (grown_trans HGA.out hgB);have HO:=Prts.own ho rfl;clear hgB ho;obtain ⟨a1,b1,s1,c1,hv1,ha1,hx1⟩:=HO;subst hv1;have HA1:=hid ha1;have HX1:=hid hx1;clear ha1 hx1))
      obtain ⟨N1,hN1⟩:∃ N1,N1=ps.length:=⟨_,rfl⟩
      have HX1':=hid (fun W (hg:wB.grownBy W none) i (hi:i<ps.length)=>(show W.cell? ⟨b1,s1+i*2,none⟩=some (.string (ps.getD i (Na.e0,Na.e0)).1)∧W.cell? ⟨b1,s1+i*2+1,none⟩=some (.string (ps.getD i (Na.e0,Na.e0)).2) from by
       have hb:=hg.block b1 (HA1.out (by omega)).2 (by simp)
       exact ⟨(World.cell?_of_block hb).trans (HX1.out i hi).1,(World.cell?_of_block hb).trans (HX1.out i hi).2⟩))
      have HA1':Hid (0<N1→a1=some ⟨b1,s1,none⟩):=hid (fun h=>(HA1.out (by omega)).1)
      have HEqP:Hid (N1=N→(∀ j,j<N1→ps.getD j (Na.e0,Na.e0)=l.getD j (Na.e0,Na.e0))→ps=l):=hid (fun hn h=>by
       have hNl:=HNl.out
       apply List.ext_getElem (by omega)
       intro i hi hi2
       have:=h i (by omega)
       rw[List.getD_eq_getElem?_getD,List.getD_eq_getElem?_getD,List.getElem?_eq_getElem hi,List.getElem?_eq_getElem hi2] at this
       simpa using this)
      have HNeP:Hid (N1≠N→ps≠l):=hid (fun hn h=>by have hNl:=HNl.out;rw[h] at hN1;omega)
      have HN13:Hid (N1≤3):=hid (by have:=HPl.out;omega)
      rw[←hN1] at HX1' ⊢
      have hbe:((N1:Int)==(N:Int))=decide (N1=N):=by rw[Bool.eq_iff_iff,beq_iff_eq,decide_eq_true_eq];omega
      have HBe:=hid hbe
      have HN1E:=hid hN1
      clear hN1 HA1 HX1 HPl hbe
      go_loopw [7,8] (fun sm ix wr=>∃ (i:Nat) (b:Bool),i≤N1∧sm=.bool b∧ix=.int .i64 (i:Int)∧wB.grownBy wr none∧(b=true→N1=N∧∀ j,j<i→ps.getD j (Na.e0,Na.e0)=l.getD j (Na.e0,Na.e0))∧(b=false→ps≠l)) (fun sm ix _=>(match sm with | .bool true=>1|_=>0)+(N1-(intOf ix).toNat))
      case atStart =>
       refine ⟨0,decide (N1=N),by omega,by rw[←HBe.out],rfl,grown_refl _ _,fun h=>⟨of_decide_eq_true h,fun j hj=>absurd hj (Nat.not_lt_zero _)⟩,fun h=>HNeP.out (of_decide_eq_false h)⟩
      case round =>
       obtain ⟨i,b,hi,rfl,rfl,hgw,hbt,hbf⟩:=hrel
       have HGW:=hid hgw
       have HBt:=hid hbt
       have HBf:=hid hbf
       have HRowW:=hid (hold_blk HRowB.out hgw)
       have HResW:=hid (hold_blk HResB.out hgw)
       have HGWw:=hid (grown_trans HGB.out hgw)
       have hN13:=HN13.out
       clear hgw hbt hbf
       cases b with
       |false =>
        have HNo2:=hid (HNo.out (HBf.out rfl))
        go_wp2
        go_roundw
        case rel=>exact ⟨k+1,by omega,by omega,by go_num,HGWw.out,HResW.out,HNo2.out⟩
        case measure=>simp[intOf] <;> omega
       |true =>
        obtain ⟨hNN,heq⟩:=HBt.out rfl
        have HEqs:=hid heq
        have HNN:=hid hNN
        clear heq hNN
        by_cases hiN:i<N1
        ·have hiN2:i<N:=by have:=HNN.out;omega
         obtain ⟨x0,x1⟩:=HX1'.out _ HGW.out i (by have:=HN1E.out;omega)
         obtain ⟨y0,y1⟩:=HX2.out _ HGWw.out i hiN2
         obtain rfl:=HA1'.out (by omega)
         have ha2:=HA2.out (by omega)
         try subst ha2
         try clear ha2
         have hii:(i:Int)<(N:Int):=by omega
         by_cases he:ps.getD i (Na.e0,Na.e0)=l.getD i (Na.e0,Na.e0)
         ·have HN2:Hid (∀ j,j<i+1→ps.getD j (Na.e0,Na.e0)=l.getD j (Na.e0,Na.e0)):=hid (fun j hj=>by
           rcases Nat.lt_or_ge j i with h|h
           ·exact HEqs.out j h
           ·obtain rfl:j=i:=by omega
            exact he)
          rw[←he] at y0 y1
          generalize ps.getD i (Na.e0,Na.e0)=p at *
          obtain ⟨p1,p2⟩:=p
          simp only at x0 x1 y0 y1
          clear he
          go_wp2
          go_quiet (fail)
          go_wp2
          go_roundw
          case rel=>exact ⟨i+1,true,by omega,rfl,by go_num,grown_drewN HGW.out _,fun _=>⟨HNN.out,HN2.out⟩,fun h=>absurd h (by decide)⟩
          case measure=>simp[intOf] <;> omega
         ·have hne:ps≠l:=fun h=>he (by rw[h])
          have HNe:=hid hne
          generalize ps.getD i (Na.e0,Na.e0)=p at *
          generalize l.getD i (Na.e0,Na.e0)=q at *
          obtain ⟨p1,p2⟩:=p
          obtain ⟨q1,q2⟩:=q
          simp only at x0 x1 y0 y1
          have hcs:(¬ p1.toList=q1.toList)∨(p1=q1∧¬ p2.toList=q2.toList):=by
           by_cases e:p1=q1
           ·exact .inr ⟨e,fun h=>he (by rw[e,Na.toList_inj h])⟩
           ·exact .inl (fun h=>e (Na.toList_inj h))
          clear he hne
          rcases hcs with hc|⟨rfl,hc⟩
          all_goals
           go_wp2
           go_quiet (fail)
           go_wp2
           go_roundw
           case rel=>exact ⟨i+1,false,by omega,rfl,by go_num,grown_drewN HGW.out _,fun h=>absurd h (by decide),fun _=>HNe.out⟩
           case measure=>simp[intOf] <;> omega
        ·obtain rfl:i=N1:=by omega
         have HYs:=hid (HY.out (HEqP.out HNN.out HEqs.out))
         have y0:=free_blk HResW.out 0
         have y1:=free_blk HResW.out 1
         have y2:=free_blk HResW.out 2
         have z0:=cell_blk HResW.out 0 rfl
         have z1:=cell_blk HResW.out 1 rfl
         have z2:=cell_blk HResW.out 2 rfl
         go_wp2_with (refine wpList_load_row (by rfl) 23 (.tmp 5) (by rfl) w1.heap.size (by rfl) 23 #[.int .i64 (k:Int),.string (⟨#[]⟩:ByteArray),.string (⟨#[]⟩:ByteArray)] (0,0) _ HRowW.out Tryz.underlying23 rfl hI ?_)
         refine bodyPost_ret (v:=.tuple #[.agg #[.int .i64 (k:Int),.string (⟨#[]⟩:ByteArray),.string (⟨#[]⟩:ByteArray)],.bool true]) ?_ rfl ⟨HYs.out,grown_set (grown_set (grown_set HGWw.out (.inl (Nat.le_refl _)) _) (.inl (Nat.le_refl _)) _) (.inl (Nat.le_refl _)) _⟩
         exact results_rowT Tryz.results85 _ _ w.heap.size _ _ (0,0) _ _ rfl (set3 HResW.out) Tryz.underlying23 rfl hI rfl
    ·by_cases hN1:N=1
     ·obtain ⟨M,hM⟩:∃ M,N=M+1:=⟨N-1,by omega⟩
      have hx:=(HX2.out _ HG1.out M (by omega)).2
      have hzz:=HSz.out M (by omega)
      rw[if_neg (by omega),if_pos (by omega),show N-1=M by omega] at hcd
      obtain rfl:=HA2.out (by omega)
      have hb2:b2<w1.heap.size:=Nat.lt_of_lt_of_le (HB2.out (by omega)) HG1.out.size
      have hN0':(0:Int)<(N:Int):=by omega
      have hN1':¬ (1:Int)<(N:Int):=by omega
      have hm1:(N:Int)-1=(M:Int):=by omega
      have hm2:wrap64 ((N:Int)-1)=(M:Int):=by unfold wrap64;omega
      have hm3:(0:Int)≤(M:Int):=by omega
      have hm4:(M:Int)<(N:Int):=by omega
      generalize (l.getD M (Na.e0,Na.e0)).2=nm at *
      have HCand:Hid (Na.cand k l=⟨(k:Int),(⟨#[]⟩:ByteArray),nm⟩):=hid hcd
      have HszA:Hid ((⟨#[]⟩:ByteArray).size≤1000000∧nm.size≤1000000):=hid ⟨by decide,by omega⟩
      have HRow:=hid (alloc_at w1 (.cells #[.int .i64 (k:Int),.string ⟨#[]⟩,.string nm] 23))
      have HRes:=hid (alloc_keep (o:=.cells #[.int .i64 (k:Int),.string ⟨#[]⟩,.string nm] 23) HRes1.out)
      have HG:=hid (grown_alloc HG1.out (.cells #[.int .i64 (k:Int),.string ⟨#[]⟩,.string nm] 23))
      clear hcd HB HResB0 HGB0 hzz hM
      have HkE:=hid hkE
      clear hkE hN0 hN1
      have HRt:=hid (fun W=>refRight9_any ⟨(k:Int),(⟨#[]⟩:ByteArray),nm⟩ ⟨by show (-9223372036854775808:Int)≤k;omega,by show (k:Int)≤9223372036854775807;omega⟩ (show (⟨#[]⟩:ByteArray).size≤1000000 from HszA.out.1) (show nm.size≤1000000 from HszA.out.2) W)
      unfold Na.val at HRt
      simp only at HRt
      cases hr:Na.right ⟨(k:Int),(⟨#[]⟩:ByteArray),nm⟩ with
      |false =>
       rw[hr] at HRt
       have HNo:Hid (∀ j:Nat,1≤j→j<k+1→¬ HitO l j):=hid (fun j hj1 hj2=>by
        rcases Nat.lt_or_ge j k with h|h
        ·exact H0.out j hj1 h
        ·obtain rfl:j=k:=by omega
         intro hh
         have h1:=hh.1
         rw[HCand.out,hr] at h1
         exact absurd h1 (by decide))
       clear hr
       go_wp2_with (first
        |(refine wpList_load_row (by rfl) 23 (.tmp 5) (by rfl) w1.heap.size (by rfl) 23 #[.int .i64 (k:Int),.string (⟨#[]⟩:ByteArray),.string nm] (0,0) _ HRow.out Tryz.underlying23 rfl hI ?_)
        |(go_at_call 12;with_reducible refine (HRt.out _).mono ?_;rintro e wA ⟨rfl,hgA⟩;have HRowA:=hid (hold_blk HRow.out hgA);have HResA:=hid (hold_blk HRes.out hgA);have HGA:=hid (grown_trans HG.out hgA);clear hgA))
       go_roundw
       case rel=>exact ⟨k+1,by omega,by omega,by go_num,HGA.out,HResA.out,HNo.out⟩
       case measure=>simp[intOf] <;> omega
      |true =>
       rw[hr] at HRt
       have HPt:=hid (fun W=>refParts9_any ⟨(k:Int),(⟨#[]⟩:ByteArray),nm⟩ hr W)
       unfold Na.val at HPt
       simp only at HPt
       have HY:Hid (Na.parts ⟨(k:Int),(⟨#[]⟩:ByteArray),nm⟩=l→RO9 l (.returned (.tuple #[.agg #[.int .i64 (k:Int),.string (⟨#[]⟩:ByteArray),.string nm],.bool true]))):=hid (fun h=>RO9.yes hr h)
       have HNo:Hid (Na.parts ⟨(k:Int),(⟨#[]⟩:ByteArray),nm⟩≠l→∀ j:Nat,1≤j→j<k+1→¬ HitO l j):=hid (fun hne j hj1 hj2=>by
        rcases Nat.lt_or_ge j k with h|h
        ·exact H0.out j hj1 h
        ·obtain rfl:j=k:=by omega
         intro hh
         have h1:=hh.2
         rw[HCand.out] at h1
         exact hne h1)
       have hpl:=parts_len ⟨(k:Int),(⟨#[]⟩:ByteArray),nm⟩
       have HPl:=hid hpl
       generalize Na.parts ⟨(k:Int),(⟨#[]⟩:ByteArray),nm⟩=ps at *
       clear hr hpl
       go_wp2_with (first
        |(refine wpList_load_row (by rfl) 23 (.tmp 5) (by rfl) w1.heap.size (by rfl) 23 #[.int .i64 (k:Int),.string (⟨#[]⟩:ByteArray),.string nm] (0,0) _ HRow.out Tryz.underlying23 rfl hI ?_)
        |(go_at_call 12;with_reducible refine (HRt.out _).mono ?_;rintro e wA ⟨rfl,hgA⟩;have HRowA:=hid (hold_blk HRow.out hgA);have HResA:=hid (hold_blk HRes.out hgA);have HGA:=hid (grown_trans HG.out hgA);clear hgA)
        |(refine wpList_load_row (by rfl) 23 (.tmp 5) (by rfl) w1.heap.size (by rfl) 23 #[.int .i64 (k:Int),.string (⟨#[]⟩:ByteArray),.string nm] (0,0) _ HRowA.out Tryz.underlying23 rfl hI ?_)
        |(go_at_call 18;refine (HPt.out _).mono ?_;rintro e wB ⟨v1,rfl,hgB,ho⟩;have HRowB:=hid (hold_blk HRowA.out hgB);have HResB:=hid (hold_blk HResA.out hgB);have HGB:=hid (grown_trans HGA.out hgB);have HO:=Prts.own ho rfl;clear hgB ho;obtain ⟨a1,b1,s1,c1,hv1,ha1,hx1⟩:=HO;subst hv1;have HA1:=hid ha1;have HX1:=hid hx1;clear ha1 hx1))
       obtain ⟨N1,hN1⟩:∃ N1,N1=ps.length:=⟨_,rfl⟩
       have HX1':=hid (fun W (hg:wB.grownBy W none) i (hi:i<ps.length)=>(show W.cell? ⟨b1,s1+i*2,none⟩=some (.string (ps.getD i (Na.e0,Na.e0)).1)∧W.cell? ⟨b1,s1+i*2+1,none⟩=some (.string (ps.getD i (Na.e0,Na.e0)).2) from by
        have hb:=hg.block b1 (HA1.out (by omega)).2 (by simp)
        exact ⟨(World.cell?_of_block hb).trans (HX1.out i hi).1,(World.cell?_of_block hb).trans (HX1.out i hi).2⟩))
       have HA1':Hid (0<N1→a1=some ⟨b1,s1,none⟩):=hid (fun h=>(HA1.out (by omega)).1)
       have HEqP:Hid (N1=N→(∀ j,j<N1→ps.getD j (Na.e0,Na.e0)=l.getD j (Na.e0,Na.e0))→ps=l):=hid (fun hn h=>by
        have hNl:=HNl.out
        apply List.ext_getElem (by omega)
        intro i hi hi2
        have:=h i (by omega)
        rw[List.getD_eq_getElem?_getD,List.getD_eq_getElem?_getD,List.getElem?_eq_getElem hi,List.getElem?_eq_getElem hi2] at this
        simpa using this)
       have HNeP:Hid (N1≠N→ps≠l):=hid (fun hn h=>by have hNl:=HNl.out;rw[h] at hN1;omega)
       have HN13:Hid (N1≤3):=hid (by have:=HPl.out;omega)
       rw[←hN1] at HX1' ⊢
       have hbe:((N1:Int)==(N:Int))=decide (N1=N):=by rw[Bool.eq_iff_iff,beq_iff_eq,decide_eq_true_eq];omega
       have HBe:=hid hbe
       have HN1E:=hid hN1
       clear hN1 HA1 HX1 HPl hbe
       go_loopw [7,8] (fun sm ix wr=>∃ (i:Nat) (b:Bool),i≤N1∧sm=.bool b∧ix=.int .i64 (i:Int)∧wB.grownBy wr none∧(b=true→N1=N∧∀ j,j<i→ps.getD j (Na.e0,Na.e0)=l.getD j (Na.e0,Na.e0))∧(b=false→ps≠l)) (fun sm ix _=>(match sm with | .bool true=>1|_=>0)+(N1-(intOf ix).toNat))
       case atStart =>
        refine ⟨0,decide (N1=N),by omega,by rw[←HBe.out],rfl,grown_refl _ _,fun h=>⟨of_decide_eq_true h,fun j hj=>absurd hj (Nat.not_lt_zero _)⟩,fun h=>HNeP.out (of_decide_eq_false h)⟩
       case round =>
        obtain ⟨i,b,hi,rfl,rfl,hgw,hbt,hbf⟩:=hrel
        have HGW:=hid hgw
        have HBt:=hid hbt
        have HBf:=hid hbf
        have HRowW:=hid (hold_blk HRowB.out hgw)
        have HResW:=hid (hold_blk HResB.out hgw)
        have HGWw:=hid (grown_trans HGB.out hgw)
        have hN13:=HN13.out
        clear hgw hbt hbf
        cases b with
        |false =>
         have HNo2:=hid (HNo.out (HBf.out rfl))
         go_wp2
         go_roundw
         case rel=>exact ⟨k+1,by omega,by omega,by go_num,HGWw.out,HResW.out,HNo2.out⟩
         case measure=>simp[intOf] <;> omega
        |true =>
         obtain ⟨hNN,heq⟩:=HBt.out rfl
         have HEqs:=hid heq
         have HNN:=hid hNN
         clear heq hNN
         by_cases hiN:i<N1
         ·have hiN2:i<N:=by have:=HNN.out;omega
          obtain ⟨x0,x1⟩:=HX1'.out _ HGW.out i (by have:=HN1E.out;omega)
          obtain ⟨y0,y1⟩:=HX2.out _ HGWw.out i hiN2
          obtain rfl:=HA1'.out (by omega)
          have ha2:=HA2.out (by omega)
          try subst ha2
          try clear ha2
          have hii:(i:Int)<(N:Int):=by omega
          by_cases he:ps.getD i (Na.e0,Na.e0)=l.getD i (Na.e0,Na.e0)
          ·have HN2:Hid (∀ j,j<i+1→ps.getD j (Na.e0,Na.e0)=l.getD j (Na.e0,Na.e0)):=hid (fun j hj=>by
            rcases Nat.lt_or_ge j i with h|h
            ·exact HEqs.out j h
            ·obtain rfl:j=i:=by omega
             exact he)
           rw[←he] at y0 y1
           generalize ps.getD i (Na.e0,Na.e0)=p at *
           obtain ⟨p1,p2⟩:=p
           simp only at x0 x1 y0 y1
           clear he
           go_wp2
           go_quiet (fail)
           go_wp2
           go_roundw
           case rel=>exact ⟨i+1,true,by omega,rfl,by go_num,grown_drewN HGW.out _,fun _=>⟨HNN.out,HN2.out⟩,fun h=>absurd h (by decide)⟩
           case measure=>simp[intOf] <;> omega
          ·have hne:ps≠l:=fun h=>he (by rw[h])
           have HNe:=hid hne
           generalize ps.getD i (Na.e0,Na.e0)=p at *
           generalize l.getD i (Na.e0,Na.e0)=q at *
           obtain ⟨p1,p2⟩:=p
           obtain ⟨q1,q2⟩:=q
           simp only at x0 x1 y0 y1
           have hcs:(¬ p1.toList=q1.toList)∨(p1=q1∧¬ p2.toList=q2.toList):=by
            by_cases e:p1=q1
            ·exact .inr ⟨e,fun h=>he (by rw[e,Na.toList_inj h])⟩
            ·exact .inl (fun h=>e (Na.toList_inj h))
           clear he hne
           rcases hcs with hc|⟨rfl,hc⟩
           all_goals
            go_wp2
            go_quiet (fail)
            go_wp2
            go_roundw
            case rel=>exact ⟨i+1,false,by omega,rfl,by go_num,grown_drewN HGW.out _,fun h=>absurd h (by decide),fun _=>HNe.out⟩
            case measure=>simp[intOf] <;> omega
         ·obtain rfl:i=N1:=by omega
          have HYs:=hid (HY.out (HEqP.out HNN.out HEqs.out))
          have y0:=free_blk HResW.out 0
          have y1:=free_blk HResW.out 1
          have y2:=free_blk HResW.out 2
          have z0:=cell_blk HResW.out 0 rfl
          have z1:=cell_blk HResW.out 1 rfl
          have z2:=cell_blk HResW.out 2 rfl
          go_wp2_with (refine wpList_load_row (by rfl) 23 (.tmp 5) (by rfl) w1.heap.size (by rfl) 23 #[.int .i64 (k:Int),.string (⟨#[]⟩:ByteArray),.string nm] (0,0) _ HRowW.out Tryz.underlying23 rfl hI ?_)
          refine bodyPost_ret (v:=.tuple #[.agg #[.int .i64 (k:Int),.string (⟨#[]⟩:ByteArray),.string nm],.bool true]) ?_ rfl ⟨HYs.out,grown_set (grown_set (grown_set HGWw.out (.inl (Nat.le_refl _)) _) (.inl (Nat.le_refl _)) _) (.inl (Nat.le_refl _)) _⟩
          exact results_rowT Tryz.results85 _ _ w.heap.size _ _ (0,0) _ _ rfl (set3 HResW.out) Tryz.underlying23 rfl hI rfl
     ·obtain ⟨M,hM⟩:∃ M,N=M+1:=⟨N-1,by omega⟩
      have hx:=(HX2.out _ HG1.out M (by omega)).2
      have hxs:=(HX2.out _ HG1.out 1 (by omega)).2
      have hzz:=HSz.out M (by omega)
      have hzs:=HSz.out 1 (by omega)
      rw[if_pos (by omega),if_pos (by omega),show N-1=M by omega] at hcd
      obtain rfl:=HA2.out (by omega)
      have hb2:b2<w1.heap.size:=Nat.lt_of_lt_of_le (HB2.out (by omega)) HG1.out.size
      have hN0':(0:Int)<(N:Int):=by omega
      have hN1':(1:Int)<(N:Int):=by omega
      have hm1:(N:Int)-1=(M:Int):=by omega
      have hm2:wrap64 ((N:Int)-1)=(M:Int):=by unfold wrap64;omega
      have hm3:(0:Int)≤(M:Int):=by omega
      have hm4:(M:Int)<(N:Int):=by omega
      generalize (l.getD M (Na.e0,Na.e0)).2=nm at *
      generalize (l.getD 1 (Na.e0,Na.e0)).2=sp at *
      have HCand:Hid (Na.cand k l=⟨(k:Int),sp,nm⟩):=hid hcd
      have HszA:Hid (sp.size≤1000000∧nm.size≤1000000):=hid ⟨by omega,by omega⟩
      have HRow:=hid (alloc_at w1 (.cells #[.int .i64 (k:Int),.string sp,.string nm] 23))
      have HRes:=hid (alloc_keep (o:=.cells #[.int .i64 (k:Int),.string sp,.string nm] 23) HRes1.out)
      have HG:=hid (grown_alloc HG1.out (.cells #[.int .i64 (k:Int),.string sp,.string nm] 23))
      clear hcd HB HResB0 HGB0 hzz hzs hM
      have HkE:=hid hkE
      clear hkE hN0 hN1
      have HRt:=hid (fun W=>refRight9_any ⟨(k:Int),sp,nm⟩ ⟨by show (-9223372036854775808:Int)≤k;omega,by show (k:Int)≤9223372036854775807;omega⟩ (show sp.size≤1000000 from HszA.out.1) (show nm.size≤1000000 from HszA.out.2) W)
      unfold Na.val at HRt
      simp only at HRt
      cases hr:Na.right ⟨(k:Int),sp,nm⟩ with
      |false =>
       rw[hr] at HRt
       have HNo:Hid (∀ j:Nat,1≤j→j<k+1→¬ HitO l j):=hid (fun j hj1 hj2=>by
        rcases Nat.lt_or_ge j k with h|h
        ·exact H0.out j hj1 h
        ·obtain rfl:j=k:=by omega
         intro hh
         have h1:=hh.1
         rw[HCand.out,hr] at h1
         exact absurd h1 (by decide))
       clear hr
       go_wp2_with (first
        |(refine wpList_load_row (by rfl) 23 (.tmp 5) (by rfl) w1.heap.size (by rfl) 23 #[.int .i64 (k:Int),.string sp,.string nm] (0,0) _ HRow.out Tryz.underlying23 rfl hI ?_)
        |(go_at_call 12;with_reducible refine (HRt.out _).mono ?_;rintro e wA ⟨rfl,hgA⟩;have HRowA:=hid (hold_blk HRow.out hgA);have HResA:=hid (hold_blk HRes.out hgA);have HGA:=hid (grown_trans HG.out hgA);clear hgA))
       go_roundw
       case rel=>exact ⟨k+1,by omega,by omega,by go_num,HGA.out,HResA.out,HNo.out⟩
       case measure=>simp[intOf] <;> omega
      |true =>
       rw[hr] at HRt
       have HPt:=hid (fun W=>refParts9_any ⟨(k:Int),sp,nm⟩ hr W)
       unfold Na.val at HPt
       simp only at HPt
       have HY:Hid (Na.parts ⟨(k:Int),sp,nm⟩=l→RO9 l (.returned (.tuple #[.agg #[.int .i64 (k:Int),.string sp,.string nm],.bool true]))):=hid (fun h=>RO9.yes hr h)
       have HNo:Hid (Na.parts ⟨(k:Int),sp,nm⟩≠l→∀ j:Nat,1≤j→j<k+1→¬ HitO l j):=hid (fun hne j hj1 hj2=>by
        rcases Nat.lt_or_ge j k with h|h
        ·exact H0.out j hj1 h
        ·obtain rfl:j=k:=by omega
         intro hh
         have h1:=hh.2
         rw[HCand.out] at h1
         exact hne h1)
       have hpl:=parts_len ⟨(k:Int),sp,nm⟩
       have HPl:=hid hpl
       generalize Na.parts ⟨(k:Int),sp,nm⟩=ps at *
       clear hr hpl
       go_wp2_with (first
        |(refine wpList_load_row (by rfl) 23 (.tmp 5) (by rfl) w1.heap.size (by rfl) 23 #[.int .i64 (k:Int),.string sp,.string nm] (0,0) _ HRow.out Tryz.underlying23 rfl hI ?_)
        |(go_at_call 12;with_reducible refine (HRt.out _).mono ?_;rintro e wA ⟨rfl,hgA⟩;have HRowA:=hid (hold_blk HRow.out hgA);have HResA:=hid (hold_blk HRes.out hgA);have HGA:=hid (grown_trans HG.out hgA);clear hgA)
        |(refine wpList_load_row (by rfl) 23 (.tmp 5) (by rfl) w1.heap.size (by rfl) 23 #[.int .i64 (k:Int),.string sp,.string nm] (0,0) _ HRowA.out Tryz.underlying23 rfl hI ?_)
        |(go_at_call 18;refine (HPt.out _).mono ?_;rintro e wB ⟨v1,rfl,hgB,ho⟩;have HRowB:=hid (hold_blk HRowA.out hgB);have HResB:=hid (hold_blk HResA.out hgB);have HGB:=hid (grown_trans HGA.out hgB);have HO:=Prts.own ho rfl;clear hgB ho;obtain ⟨a1,b1,s1,c1,hv1,ha1,hx1⟩:=HO;subst hv1;have HA1:=hid ha1;have HX1:=hid hx1;clear ha1 hx1))
       obtain ⟨N1,hN1⟩:∃ N1,N1=ps.length:=⟨_,rfl⟩
       have HX1':=hid (fun W (hg:wB.grownBy W none) i (hi:i<ps.length)=>(show W.cell? ⟨b1,s1+i*2,none⟩=some (.string (ps.getD i (Na.e0,Na.e0)).1)∧W.cell? ⟨b1,s1+i*2+1,none⟩=some (.string (ps.getD i (Na.e0,Na.e0)).2) from by
        have hb:=hg.block b1 (HA1.out (by omega)).2 (by simp)
        exact ⟨(World.cell?_of_block hb).trans (HX1.out i hi).1,(World.cell?_of_block hb).trans (HX1.out i hi).2⟩))
       have HA1':Hid (0<N1→a1=some ⟨b1,s1,none⟩):=hid (fun h=>(HA1.out (by omega)).1)
       have HEqP:Hid (N1=N→(∀ j,j<N1→ps.getD j (Na.e0,Na.e0)=l.getD j (Na.e0,Na.e0))→ps=l):=hid (fun hn h=>by
        have hNl:=HNl.out
        apply List.ext_getElem (by omega)
        intro i hi hi2
        have:=h i (by omega)
        rw[List.getD_eq_getElem?_getD,List.getD_eq_getElem?_getD,List.getElem?_eq_getElem hi,List.getElem?_eq_getElem hi2] at this
        simpa using this)
       have HNeP:Hid (N1≠N→ps≠l):=hid (fun hn h=>by have hNl:=HNl.out;rw[h] at hN1;omega)
       have HN13:Hid (N1≤3):=hid (by have:=HPl.out;omega)
       rw[←hN1] at HX1' ⊢
       have hbe:((N1:Int)==(N:Int))=decide (N1=N):=by rw[Bool.eq_iff_iff,beq_iff_eq,decide_eq_true_eq];omega
       have HBe:=hid hbe
       have HN1E:=hid hN1
       clear hN1 HA1 HX1 HPl hbe
       go_loopw [7,8] (fun sm ix wr=>∃ (i:Nat) (b:Bool),i≤N1∧sm=.bool b∧ix=.int .i64 (i:Int)∧wB.grownBy wr none∧(b=true→N1=N∧∀ j,j<i→ps.getD j (Na.e0,Na.e0)=l.getD j (Na.e0,Na.e0))∧(b=false→ps≠l)) (fun sm ix _=>(match sm with | .bool true=>1|_=>0)+(N1-(intOf ix).toNat))
       case atStart =>
        refine ⟨0,decide (N1=N),by omega,by rw[←HBe.out],rfl,grown_refl _ _,fun h=>⟨of_decide_eq_true h,fun j hj=>absurd hj (Nat.not_lt_zero _)⟩,fun h=>HNeP.out (of_decide_eq_false h)⟩
       case round =>
        obtain ⟨i,b,hi,rfl,rfl,hgw,hbt,hbf⟩:=hrel
        have HGW:=hid hgw
        have HBt:=hid hbt
        have HBf:=hid hbf
        have HRowW:=hid (hold_blk HRowB.out hgw)
        have HResW:=hid (hold_blk HResB.out hgw)
        have HGWw:=hid (grown_trans HGB.out hgw)
        have hN13:=HN13.out
        clear hgw hbt hbf
        cases b with
        |false =>
         have HNo2:=hid (HNo.out (HBf.out rfl))
         go_wp2
         go_roundw
         case rel=>exact ⟨k+1,by omega,by omega,by go_num,HGWw.out,HResW.out,HNo2.out⟩
         case measure=>simp[intOf] <;> omega
        |true =>
         obtain ⟨hNN,heq⟩:=HBt.out rfl
         have HEqs:=hid heq
         have HNN:=hid hNN
         clear heq hNN
         by_cases hiN:i<N1
         ·have hiN2:i<N:=by have:=HNN.out;omega
          obtain ⟨x0,x1⟩:=HX1'.out _ HGW.out i (by have:=HN1E.out;omega)
          obtain ⟨y0,y1⟩:=HX2.out _ HGWw.out i hiN2
          obtain rfl:=HA1'.out (by omega)
          have ha2:=HA2.out (by omega)
          try subst ha2
          try clear ha2
          have hii:(i:Int)<(N:Int):=by omega
          by_cases he:ps.getD i (Na.e0,Na.e0)=l.getD i (Na.e0,Na.e0)
          ·have HN2:Hid (∀ j,j<i+1→ps.getD j (Na.e0,Na.e0)=l.getD j (Na.e0,Na.e0)):=hid (fun j hj=>by
            rcases Nat.lt_or_ge j i with h|h
            ·exact HEqs.out j h
            ·obtain rfl:j=i:=by omega
             exact he)
           rw[←he] at y0 y1
           generalize ps.getD i (Na.e0,Na.e0)=p at *
           obtain ⟨p1,p2⟩:=p
           simp only at x0 x1 y0 y1
           clear he
           go_wp2
           go_quiet (fail)
           go_wp2
           go_roundw
           case rel=>exact ⟨i+1,true,by omega,rfl,by go_num,grown_drewN HGW.out _,fun _=>⟨HNN.out,HN2.out⟩,fun h=>absurd h (by decide)⟩
           case measure=>simp[intOf] <;> omega
          ·have hne:ps≠l:=fun h=>he (by rw[h])
           have HNe:=hid hne
           generalize ps.getD i (Na.e0,Na.e0)=p at *
           generalize l.getD i (Na.e0,Na.e0)=q at *
           obtain ⟨p1,p2⟩:=p
           obtain ⟨q1,q2⟩:=q
           simp only at x0 x1 y0 y1
           have hcs:(¬ p1.toList=q1.toList)∨(p1=q1∧¬ p2.toList=q2.toList):=by
            by_cases e:p1=q1
            ·exact .inr ⟨e,fun h=>he (by rw[e,Na.toList_inj h])⟩
            ·exact .inl (fun h=>e (Na.toList_inj h))
           clear he hne
           rcases hcs with hc|⟨rfl,hc⟩
           all_goals
            go_wp2
            go_quiet (fail)
            go_wp2
            go_roundw
            case rel=>exact ⟨i+1,false,by omega,rfl,by go_num,grown_drewN HGW.out _,fun h=>absurd h (by decide),fun _=>HNe.out⟩
            case measure=>simp[intOf] <;> omega
         ·obtain rfl:i=N1:=by omega
          have HYs:=hid (HY.out (HEqP.out HNN.out HEqs.out))
          have y0:=free_blk HResW.out 0
          have y1:=free_blk HResW.out 1
          have y2:=free_blk HResW.out 2
          have z0:=cell_blk HResW.out 0 rfl
          have z1:=cell_blk HResW.out 1 rfl
          have z2:=cell_blk HResW.out 2 rfl
          go_wp2_with (refine wpList_load_row (by rfl) 23 (.tmp 5) (by rfl) w1.heap.size (by rfl) 23 #[.int .i64 (k:Int),.string sp,.string nm] (0,0) _ HRowW.out Tryz.underlying23 rfl hI ?_)
          refine bodyPost_ret (v:=.tuple #[.agg #[.int .i64 (k:Int),.string sp,.string nm],.bool true]) ?_ rfl ⟨HYs.out,grown_set (grown_set (grown_set HGWw.out (.inl (Nat.le_refl _)) _) (.inl (Nat.le_refl _)) _) (.inl (Nat.le_refl _)) _⟩
          exact results_rowT Tryz.results85 _ _ w.heap.size _ _ (0,0) _ _ rfl (set3 HResW.out) Tryz.underlying23 rfl hI rfl
   ·have hk2:((k:Int)==2)=false:=by rw[beq_eq_false_iff_ne];omega
    by_cases hN0:N=0
    ·rw[if_neg (by omega),if_neg (by omega)] at hcd
     have HCand:Hid (Na.cand k l=⟨(k:Int),(⟨#[]⟩:ByteArray),(⟨#[]⟩:ByteArray)⟩):=hid hcd
     have HszA:Hid ((⟨#[]⟩:ByteArray).size≤1000000∧(⟨#[]⟩:ByteArray).size≤1000000):=hid ⟨by decide,by decide⟩
     have hN0':¬ (0:Int)<(N:Int):=by omega
     have hN1':¬ (1:Int)<(N:Int):=by omega
     have HRow:=HB
     have HRes:=HResB0
     have HG:=HGB0
     clear hcd HB HResB0 HGB0
     have HkE:=hid hkE
     clear hkE hN0
     have HRt:=hid (fun W=>refRight9_any ⟨(k:Int),(⟨#[]⟩:ByteArray),(⟨#[]⟩:ByteArray)⟩ ⟨by show (-9223372036854775808:Int)≤k;omega,by show (k:Int)≤9223372036854775807;omega⟩ (show (⟨#[]⟩:ByteArray).size≤1000000 from HszA.out.1) (show (⟨#[]⟩:ByteArray).size≤1000000 from HszA.out.2) W)
     unfold Na.val at HRt
     simp only at HRt
     cases hr:Na.right ⟨(k:Int),(⟨#[]⟩:ByteArray),(⟨#[]⟩:ByteArray)⟩ with
     |false =>
      rw[hr] at HRt
      have HNo:Hid (∀ j:Nat,1≤j→j<k+1→¬ HitO l j):=hid (fun j hj1 hj2=>by
       rcases Nat.lt_or_ge j k with h|h
       ·exact H0.out j hj1 h
       ·obtain rfl:j=k:=by omega
        intro hh
        have h1:=hh.1
        rw[HCand.out,hr] at h1
        exact absurd h1 (by decide))
      clear hr
      go_wp2_with (first
       |(refine wpList_load_row (by rfl) 23 (.tmp 5) (by rfl) w1.heap.size (by rfl) 23 #[.int .i64 (k:Int),.string (⟨#[]⟩:ByteArray),.string (⟨#[]⟩:ByteArray)] (0,0) _ HRow.out Tryz.underlying23 rfl hI ?_)
       |(go_at_call 12;with_reducible refine (HRt.out _).mono ?_;rintro e wA ⟨rfl,hgA⟩;have HRowA:=hid (hold_blk HRow.out hgA);have HResA:=hid (hold_blk HRes.out hgA);have HGA:=hid (grown_trans HG.out hgA);clear hgA))
      go_roundw
      case rel=>exact ⟨k+1,by omega,by omega,by go_num,HGA.out,HResA.out,HNo.out⟩
      case measure=>simp[intOf] <;> omega
     |true =>
      rw[hr] at HRt
      have HPt:=hid (fun W=>refParts9_any ⟨(k:Int),(⟨#[]⟩:ByteArray),(⟨#[]⟩:ByteArray)⟩ hr W)
      unfold Na.val at HPt
      simp only at HPt
      have HY:Hid (Na.parts ⟨(k:Int),(⟨#[]⟩:ByteArray),(⟨#[]⟩:ByteArray)⟩=l→RO9 l (.returned (.tuple #[.agg #[.int .i64 (k:Int),.string (⟨#[]⟩:ByteArray),.string (⟨#[]⟩:ByteArray)],.bool true]))):=hid (fun h=>RO9.yes hr h)
      have HNo:Hid (Na.parts ⟨(k:Int),(⟨#[]⟩:ByteArray),(⟨#[]⟩:ByteArray)⟩≠l→∀ j:Nat,1≤j→j<k+1→¬ HitO l j):=hid (fun hne j hj1 hj2=>by
       rcases Nat.lt_or_ge j k with h|h
       ·exact H0.out j hj1 h
       ·obtain rfl:j=k:=by omega
        intro hh
        have h1:=hh.2
        rw[HCand.out] at h1
        exact hne h1)
      have hpl:=parts_len ⟨(k:Int),(⟨#[]⟩:ByteArray),(⟨#[]⟩:ByteArray)⟩
      have HPl:=hid hpl
      generalize Na.parts ⟨(k:Int),(⟨#[]⟩:ByteArray),(⟨#[]⟩:ByteArray)⟩=ps at *
      clear hr hpl
      go_wp2_with (first
       |(refine wpList_load_row (by rfl) 23 (.tmp 5) (by rfl) w1.heap.size (by rfl) 23 #[.int .i64 (k:Int),.string (⟨#[]⟩:ByteArray),.string (⟨#[]⟩:ByteArray)] (0,0) _ HRow.out Tryz.underlying23 rfl hI ?_)
       |(go_at_call 12;with_reducible refine (HRt.out _).mono ?_;rintro e wA ⟨rfl,hgA⟩;have HRowA:=hid (hold_blk HRow.out hgA);have HResA:=hid (hold_blk HRes.out hgA);have HGA:=hid (grown_trans HG.out hgA);clear hgA)
       |(refine wpList_load_row (by rfl) 23 (.tmp 5) (by rfl) w1.heap.size (by rfl) 23 #[.int .i64 (k:Int),.string (⟨#[]⟩:ByteArray),.string (⟨#[]⟩:ByteArray)] (0,0) _ HRowA.out Tryz.underlying23 rfl hI ?_)
       |(go_at_call 18;refine (HPt.out _).mono ?_;rintro e wB ⟨v1,rfl,hgB,ho⟩;have HRowB:=hid (hold_blk HRowA.out hgB);have HResB:=hid (hold_blk HResA.out hgB);have HGB:=hid (grown_trans HGA.out hgB);have HO:=Prts.own ho rfl;clear hgB ho;obtain ⟨a1,b1,s1,c1,hv1,ha1,hx1⟩:=HO;subst hv1;have HA1:=hid ha1;have HX1:=hid hx1;clear ha1 hx1))
      obtain ⟨N1,hN1⟩:∃ N1,N1=ps.length:=⟨_,rfl⟩
      have HX1':=hid (fun W (hg:wB.grownBy W none) i (hi:i<ps.length)=>(show W.cell? ⟨b1,s1+i*2,none⟩=some (.string (ps.getD i (Na.e0,Na.e0)).1)∧W.cell? ⟨b1,s1+i*2+1,none⟩=some (.string (ps.getD i (Na.e0,Na.e0)).2) from by
       have hb:=hg.block b1 (HA1.out (by omega)).2 (by simp)
       exact ⟨(World.cell?_of_block hb).trans (HX1.out i hi).1,(World.cell?_of_block hb).trans (HX1.out i hi).2⟩))
      have HA1':Hid (0<N1→a1=some ⟨b1,s1,none⟩):=hid (fun h=>(HA1.out (by omega)).1)
      have HEqP:Hid (N1=N→(∀ j,j<N1→ps.getD j (Na.e0,Na.e0)=l.getD j (Na.e0,Na.e0))→ps=l):=hid (fun hn h=>by
       have hNl:=HNl.out
       apply List.ext_getElem (by omega)
       intro i hi hi2
       have:=h i (by omega)
       rw[List.getD_eq_getElem?_getD,List.getD_eq_getElem?_getD,List.getElem?_eq_getElem hi,List.getElem?_eq_getElem hi2] at this
       simpa using this)
      have HNeP:Hid (N1≠N→ps≠l):=hid (fun hn h=>by have hNl:=HNl.out;rw[h] at hN1;omega)
      have HN13:Hid (N1≤3):=hid (by have:=HPl.out;omega)
      rw[←hN1] at HX1' ⊢
      have hbe:((N1:Int)==(N:Int))=decide (N1=N):=by rw[Bool.eq_iff_iff,beq_iff_eq,decide_eq_true_eq];omega
      have HBe:=hid hbe
      have HN1E:=hid hN1
      clear hN1 HA1 HX1 HPl hbe
      go_loopw [7,8] (fun sm ix wr=>∃ (i:Nat) (b:Bool),i≤N1∧sm=.bool b∧ix=.int .i64 (i:Int)∧wB.grownBy wr none∧(b=true→N1=N∧∀ j,j<i→ps.getD j (Na.e0,Na.e0)=l.getD j (Na.e0,Na.e0))∧(b=false→ps≠l)) (fun sm ix _=>(match sm with | .bool true=>1|_=>0)+(N1-(intOf ix).toNat))
      case atStart =>
       refine ⟨0,decide (N1=N),by omega,by rw[←HBe.out],rfl,grown_refl _ _,fun h=>⟨of_decide_eq_true h,fun j hj=>absurd hj (Nat.not_lt_zero _)⟩,fun h=>HNeP.out (of_decide_eq_false h)⟩
      case round =>
       obtain ⟨i,b,hi,rfl,rfl,hgw,hbt,hbf⟩:=hrel
       have HGW:=hid hgw
       have HBt:=hid hbt
       have HBf:=hid hbf
       have HRowW:=hid (hold_blk HRowB.out hgw)
       have HResW:=hid (hold_blk HResB.out hgw)
       have HGWw:=hid (grown_trans HGB.out hgw)
       have hN13:=HN13.out
       clear hgw hbt hbf
       cases b with
       |false =>
        have HNo2:=hid (HNo.out (HBf.out rfl))
        go_wp2
        go_roundw
        case rel=>exact ⟨k+1,by omega,by omega,by go_num,HGWw.out,HResW.out,HNo2.out⟩
        case measure=>simp[intOf] <;> omega
       |true =>
        obtain ⟨hNN,heq⟩:=HBt.out rfl
        have HEqs:=hid heq
        have HNN:=hid hNN
        clear heq hNN
        by_cases hiN:i<N1
        ·have hiN2:i<N:=by have:=HNN.out;omega
         obtain ⟨x0,x1⟩:=HX1'.out _ HGW.out i (by have:=HN1E.out;omega)
         obtain ⟨y0,y1⟩:=HX2.out _ HGWw.out i hiN2
         obtain rfl:=HA1'.out (by omega)
         have ha2:=HA2.out (by omega)
         try subst ha2
         try clear ha2
         have hii:(i:Int)<(N:Int):=by omega
         by_cases he:ps.getD i (Na.e0,Na.e0)=l.getD i (Na.e0,Na.e0)
         ·have HN2:Hid (∀ j,j<i+1→ps.getD j (Na.e0,Na.e0)=l.getD j (Na.e0,Na.e0)):=hid (fun j hj=>by
           rcases Nat.lt_or_ge j i with h|h
           ·exact HEqs.out j h
           ·obtain rfl:j=i:=by omega
            exact he)
          rw[←he] at y0 y1
          generalize ps.getD i (Na.e0,Na.e0)=p at *
          obtain ⟨p1,p2⟩:=p
          simp only at x0 x1 y0 y1
          clear he
          go_wp2
          go_quiet (fail)
          go_wp2
          go_roundw
          case rel=>exact ⟨i+1,true,by omega,rfl,by go_num,grown_drewN HGW.out _,fun _=>⟨HNN.out,HN2.out⟩,fun h=>absurd h (by decide)⟩
          case measure=>simp[intOf] <;> omega
         ·have hne:ps≠l:=fun h=>he (by rw[h])
          have HNe:=hid hne
          generalize ps.getD i (Na.e0,Na.e0)=p at *
          generalize l.getD i (Na.e0,Na.e0)=q at *
          obtain ⟨p1,p2⟩:=p
          obtain ⟨q1,q2⟩:=q
          simp only at x0 x1 y0 y1
          have hcs:(¬ p1.toList=q1.toList)∨(p1=q1∧¬ p2.toList=q2.toList):=by
           by_cases e:p1=q1
           ·exact .inr ⟨e,fun h=>he (by rw[e,Na.toList_inj h])⟩
           ·exact .inl (fun h=>e (Na.toList_inj h))
          clear he hne
          rcases hcs with hc|⟨rfl,hc⟩
          all_goals
           go_wp2
           go_quiet (fail)
           go_wp2
           go_roundw
           case rel=>exact ⟨i+1,false,by omega,rfl,by go_num,grown_drewN HGW.out _,fun h=>absurd h (by decide),fun _=>HNe.out⟩
           case measure=>simp[intOf] <;> omega
        ·obtain rfl:i=N1:=by omega
         have HYs:=hid (HY.out (HEqP.out HNN.out HEqs.out))
         have y0:=free_blk HResW.out 0
         have y1:=free_blk HResW.out 1
         have y2:=free_blk HResW.out 2
         have z0:=cell_blk HResW.out 0 rfl
         have z1:=cell_blk HResW.out 1 rfl
         have z2:=cell_blk HResW.out 2 rfl
         go_wp2_with (refine wpList_load_row (by rfl) 23 (.tmp 5) (by rfl) w1.heap.size (by rfl) 23 #[.int .i64 (k:Int),.string (⟨#[]⟩:ByteArray),.string (⟨#[]⟩:ByteArray)] (0,0) _ HRowW.out Tryz.underlying23 rfl hI ?_)
         refine bodyPost_ret (v:=.tuple #[.agg #[.int .i64 (k:Int),.string (⟨#[]⟩:ByteArray),.string (⟨#[]⟩:ByteArray)],.bool true]) ?_ rfl ⟨HYs.out,grown_set (grown_set (grown_set HGWw.out (.inl (Nat.le_refl _)) _) (.inl (Nat.le_refl _)) _) (.inl (Nat.le_refl _)) _⟩
         exact results_rowT Tryz.results85 _ _ w.heap.size _ _ (0,0) _ _ rfl (set3 HResW.out) Tryz.underlying23 rfl hI rfl
    ·obtain ⟨M,hM⟩:∃ M,N=M+1:=⟨N-1,by omega⟩
     have hx:=(HX2.out _ HG1.out M (by omega)).2
     have hzz:=HSz.out M (by omega)
     rw[if_neg (by omega),if_pos (by omega),show N-1=M by omega] at hcd
     obtain rfl:=HA2.out (by omega)
     have hb2:b2<w1.heap.size:=Nat.lt_of_lt_of_le (HB2.out (by omega)) HG1.out.size
     have hN0':(0:Int)<(N:Int):=by omega
     have hm1:(N:Int)-1=(M:Int):=by omega
     have hm2:wrap64 ((N:Int)-1)=(M:Int):=by unfold wrap64;omega
     have hm3:(0:Int)≤(M:Int):=by omega
     have hm4:(M:Int)<(N:Int):=by omega
     generalize (l.getD M (Na.e0,Na.e0)).2=nm at *
     have HCand:Hid (Na.cand k l=⟨(k:Int),(⟨#[]⟩:ByteArray),nm⟩):=hid hcd
     have HszA:Hid ((⟨#[]⟩:ByteArray).size≤1000000∧nm.size≤1000000):=hid ⟨by decide,by omega⟩
     have HRow:=hid (alloc_at w1 (.cells #[.int .i64 (k:Int),.string ⟨#[]⟩,.string nm] 23))
     have HRes:=hid (alloc_keep (o:=.cells #[.int .i64 (k:Int),.string ⟨#[]⟩,.string nm] 23) HRes1.out)
     have HG:=hid (grown_alloc HG1.out (.cells #[.int .i64 (k:Int),.string ⟨#[]⟩,.string nm] 23))
     clear hcd HB HResB0 HGB0 hzz hM
     have HkE:=hid hkE
     clear hkE hN0
     have HRt:=hid (fun W=>refRight9_any ⟨(k:Int),(⟨#[]⟩:ByteArray),nm⟩ ⟨by show (-9223372036854775808:Int)≤k;omega,by show (k:Int)≤9223372036854775807;omega⟩ (show (⟨#[]⟩:ByteArray).size≤1000000 from HszA.out.1) (show nm.size≤1000000 from HszA.out.2) W)
     unfold Na.val at HRt
     simp only at HRt
     cases hr:Na.right ⟨(k:Int),(⟨#[]⟩:ByteArray),nm⟩ with
     |false =>
      rw[hr] at HRt
      have HNo:Hid (∀ j:Nat,1≤j→j<k+1→¬ HitO l j):=hid (fun j hj1 hj2=>by
       rcases Nat.lt_or_ge j k with h|h
       ·exact H0.out j hj1 h
       ·obtain rfl:j=k:=by omega
        intro hh
        have h1:=hh.1
        rw[HCand.out,hr] at h1
        exact absurd h1 (by decide))
      clear hr
      go_wp2_with (first
       |(refine wpList_load_row (by rfl) 23 (.tmp 5) (by rfl) w1.heap.size (by rfl) 23 #[.int .i64 (k:Int),.string (⟨#[]⟩:ByteArray),.string nm] (0,0) _ HRow.out Tryz.underlying23 rfl hI ?_)
       |(go_at_call 12;with_reducible refine (HRt.out _).mono ?_;rintro e wA ⟨rfl,hgA⟩;have HRowA:=hid (hold_blk HRow.out hgA);have HResA:=hid (hold_blk HRes.out hgA);have HGA:=hid (grown_trans HG.out hgA);clear hgA))
      go_roundw
      case rel=>exact ⟨k+1,by omega,by omega,by go_num,HGA.out,HResA.out,HNo.out⟩
      case measure=>simp[intOf] <;> omega
     |true =>
      rw[hr] at HRt
      have HPt:=hid (fun W=>refParts9_any ⟨(k:Int),(⟨#[]⟩:ByteArray),nm⟩ hr W)
      unfold Na.val at HPt
      simp only at HPt
      have HY:Hid (Na.parts ⟨(k:Int),(⟨#[]⟩:ByteArray),nm⟩=l→RO9 l (.returned (.tuple #[.agg #[.int .i64 (k:Int),.string (⟨#[]⟩:ByteArray),.string nm],.bool true]))):=hid (fun h=>RO9.yes hr h)
      have HNo:Hid (Na.parts ⟨(k:Int),(⟨#[]⟩:ByteArray),nm⟩≠l→∀ j:Nat,1≤j→j<k+1→¬ HitO l j):=hid (fun hne j hj1 hj2=>by
       rcases Nat.lt_or_ge j k with h|h
       ·exact H0.out j hj1 h
       ·obtain rfl:j=k:=by omega
        intro hh
        have h1:=hh.2
        rw[HCand.out] at h1
        exact hne h1)
      have hpl:=parts_len ⟨(k:Int),(⟨#[]⟩:ByteArray),nm⟩
      have HPl:=hid hpl
      generalize Na.parts ⟨(k:Int),(⟨#[]⟩:ByteArray),nm⟩=ps at *
      clear hr hpl
      go_wp2_with (first
       |(refine wpList_load_row (by rfl) 23 (.tmp 5) (by rfl) w1.heap.size (by rfl) 23 #[.int .i64 (k:Int),.string (⟨#[]⟩:ByteArray),.string nm] (0,0) _ HRow.out Tryz.underlying23 rfl hI ?_)
       |(go_at_call 12;with_reducible refine (HRt.out _).mono ?_;rintro e wA ⟨rfl,hgA⟩;have HRowA:=hid (hold_blk HRow.out hgA);have HResA:=hid (hold_blk HRes.out hgA);have HGA:=hid (grown_trans HG.out hgA);clear hgA)
       |(refine wpList_load_row (by rfl) 23 (.tmp 5) (by rfl) w1.heap.size (by rfl) 23 #[.int .i64 (k:Int),.string (⟨#[]⟩:ByteArray),.string nm] (0,0) _ HRowA.out Tryz.underlying23 rfl hI ?_)
       |(go_at_call 18;refine (HPt.out _).mono ?_;rintro e wB ⟨v1,rfl,hgB,ho⟩;have HRowB:=hid (hold_blk HRowA.out hgB);have HResB:=hid (hold_blk HResA.out hgB);have HGB:=hid (grown_trans HGA.out hgB);have HO:=Prts.own ho rfl;clear hgB ho;obtain ⟨a1,b1,s1,c1,hv1,ha1,hx1⟩:=HO;subst hv1;have HA1:=hid ha1;have HX1:=hid hx1;clear ha1 hx1))
      obtain ⟨N1,hN1⟩:∃ N1,N1=ps.length:=⟨_,rfl⟩
      have HX1':=hid (fun W (hg:wB.grownBy W none) i (hi:i<ps.length)=>(show W.cell? ⟨b1,s1+i*2,none⟩=some (.string (ps.getD i (Na.e0,Na.e0)).1)∧W.cell? ⟨b1,s1+i*2+1,none⟩=some (.string (ps.getD i (Na.e0,Na.e0)).2) from by
       have hb:=hg.block b1 (HA1.out (by omega)).2 (by simp)
       exact ⟨(World.cell?_of_block hb).trans (HX1.out i hi).1,(World.cell?_of_block hb).trans (HX1.out i hi).2⟩))
      have HA1':Hid (0<N1→a1=some ⟨b1,s1,none⟩):=hid (fun h=>(HA1.out (by omega)).1)
      have HEqP:Hid (N1=N→(∀ j,j<N1→ps.getD j (Na.e0,Na.e0)=l.getD j (Na.e0,Na.e0))→ps=l):=hid (fun hn h=>by
       have hNl:=HNl.out
       apply List.ext_getElem (by omega)
       intro i hi hi2
       have:=h i (by omega)
       rw[List.getD_eq_getElem?_getD,List.getD_eq_getElem?_getD,List.getElem?_eq_getElem hi,List.getElem?_eq_getElem hi2] at this
       simpa using this)
      have HNeP:Hid (N1≠N→ps≠l):=hid (fun hn h=>by have hNl:=HNl.out;rw[h] at hN1;omega)
      have HN13:Hid (N1≤3):=hid (by have:=HPl.out;omega)
      rw[←hN1] at HX1' ⊢
      have hbe:((N1:Int)==(N:Int))=decide (N1=N):=by rw[Bool.eq_iff_iff,beq_iff_eq,decide_eq_true_eq];omega
      have HBe:=hid hbe
      have HN1E:=hid hN1
      clear hN1 HA1 HX1 HPl hbe
      go_loopw [7,8] (fun sm ix wr=>∃ (i:Nat) (b:Bool),i≤N1∧sm=.bool b∧ix=.int .i64 (i:Int)∧wB.grownBy wr none∧(b=true→N1=N∧∀ j,j<i→ps.getD j (Na.e0,Na.e0)=l.getD j (Na.e0,Na.e0))∧(b=false→ps≠l)) (fun sm ix _=>(match sm with | .bool true=>1|_=>0)+(N1-(intOf ix).toNat))
      case atStart =>
       refine ⟨0,decide (N1=N),by omega,by rw[←HBe.out],rfl,grown_refl _ _,fun h=>⟨of_decide_eq_true h,fun j hj=>absurd hj (Nat.not_lt_zero _)⟩,fun h=>HNeP.out (of_decide_eq_false h)⟩
      case round =>
       obtain ⟨i,b,hi,rfl,rfl,hgw,hbt,hbf⟩:=hrel
       have HGW:=hid hgw
       have HBt:=hid hbt
       have HBf:=hid hbf
       have HRowW:=hid (hold_blk HRowB.out hgw)
       have HResW:=hid (hold_blk HResB.out hgw)
       have HGWw:=hid (grown_trans HGB.out hgw)
       have hN13:=HN13.out
       clear hgw hbt hbf
       cases b with
       |false =>
        have HNo2:=hid (HNo.out (HBf.out rfl))
        go_wp2
        go_roundw
        case rel=>exact ⟨k+1,by omega,by omega,by go_num,HGWw.out,HResW.out,HNo2.out⟩
        case measure=>simp[intOf] <;> omega
       |true =>
        obtain ⟨hNN,heq⟩:=HBt.out rfl
        have HEqs:=hid heq
        have HNN:=hid hNN
        clear heq hNN
        by_cases hiN:i<N1
        ·have hiN2:i<N:=by have:=HNN.out;omega
         obtain ⟨x0,x1⟩:=HX1'.out _ HGW.out i (by have:=HN1E.out;omega)
         obtain ⟨y0,y1⟩:=HX2.out _ HGWw.out i hiN2
         obtain rfl:=HA1'.out (by omega)
         have ha2:=HA2.out (by omega)
         try subst ha2
         try clear ha2
         have hii:(i:Int)<(N:Int):=by omega
         by_cases he:ps.getD i (Na.e0,Na.e0)=l.getD i (Na.e0,Na.e0)
         ·have HN2:Hid (∀ j,j<i+1→ps.getD j (Na.e0,Na.e0)=l.getD j (Na.e0,Na.e0)):=hid (fun j hj=>by
           rcases Nat.lt_or_ge j i with h|h
           ·exact HEqs.out j h
           ·obtain rfl:j=i:=by omega
            exact he)
          rw[←he] at y0 y1
          generalize ps.getD i (Na.e0,Na.e0)=p at *
          obtain ⟨p1,p2⟩:=p
          simp only at x0 x1 y0 y1
          clear he
          go_wp2
          go_quiet (fail)
          go_wp2
          go_roundw
          case rel=>exact ⟨i+1,true,by omega,rfl,by go_num,grown_drewN HGW.out _,fun _=>⟨HNN.out,HN2.out⟩,fun h=>absurd h (by decide)⟩
          case measure=>simp[intOf] <;> omega
         ·have hne:ps≠l:=fun h=>he (by rw[h])
          have HNe:=hid hne
          generalize ps.getD i (Na.e0,Na.e0)=p at *
          generalize l.getD i (Na.e0,Na.e0)=q at *
          obtain ⟨p1,p2⟩:=p
          obtain ⟨q1,q2⟩:=q
          simp only at x0 x1 y0 y1
          have hcs:(¬ p1.toList=q1.toList)∨(p1=q1∧¬ p2.toList=q2.toList):=by
           by_cases e:p1=q1
           ·exact .inr ⟨e,fun h=>he (by rw[e,Na.toList_inj h])⟩
           ·exact .inl (fun h=>e (Na.toList_inj h))
          clear he hne
          rcases hcs with hc|⟨rfl,hc⟩
          all_goals
           go_wp2
           go_quiet (fail)
           go_wp2
           go_roundw
           case rel=>exact ⟨i+1,false,by omega,rfl,by go_num,grown_drewN HGW.out _,fun h=>absurd h (by decide),fun _=>HNe.out⟩
           case measure=>simp[intOf] <;> omega
        ·obtain rfl:i=N1:=by omega
         have HYs:=hid (HY.out (HEqP.out HNN.out HEqs.out))
         have y0:=free_blk HResW.out 0
         have y1:=free_blk HResW.out 1
         have y2:=free_blk HResW.out 2
         have z0:=cell_blk HResW.out 0 rfl
         have z1:=cell_blk HResW.out 1 rfl
         have z2:=cell_blk HResW.out 2 rfl
         go_wp2_with (refine wpList_load_row (by rfl) 23 (.tmp 5) (by rfl) w1.heap.size (by rfl) 23 #[.int .i64 (k:Int),.string (⟨#[]⟩:ByteArray),.string nm] (0,0) _ HRowW.out Tryz.underlying23 rfl hI ?_)
         refine bodyPost_ret (v:=.tuple #[.agg #[.int .i64 (k:Int),.string (⟨#[]⟩:ByteArray),.string nm],.bool true]) ?_ rfl ⟨HYs.out,grown_set (grown_set (grown_set HGWw.out (.inl (Nat.le_refl _)) _) (.inl (Nat.le_refl _)) _) (.inl (Nat.le_refl _)) _⟩
         exact results_rowT Tryz.results85 _ _ w.heap.size _ _ (0,0) _ _ rfl (set3 HResW.out) Tryz.underlying23 rfl hI rfl
def IsS (l:List Na.Pr):Prop:=Na.right (Na.s0 l)=true∧Na.parts (Na.s0 l)=l
theorem ro_yes {l:List Na.Pr} {e:Ending} (h:RO9 l e) (hc:IsS l):e=.returned (.tuple #[Na.val (Na.s0 l),.bool true]):=by
 rcases h with ⟨s,rfl,h1,h2⟩|⟨_,h⟩
 ·rw[←h2,Na.s0_parts h1]
 ·exfalso
  obtain ⟨h1,h2⟩:=hc
  have hk:=(Na.right_facts h1).1
  have hcd:=Na.cand_parts h1
  rw[h2] at hcd
  refine h (Na.s0 l).k.toNat (by omega) (by omega) ?_
  unfold HitO
  rw[Int.toNat_of_nonneg (by omega),hcd]
  exact ⟨h1,h2⟩
theorem ro_no {l:List Na.Pr} {e:Ending} (h:RO9 l e) (hc:¬ IsS l):e=.returned (.tuple #[Na.val ⟨0,Na.e0,Na.e0⟩,.bool false]):=by
 rcases h with ⟨s,rfl,h1,h2⟩|⟨h,_⟩
 ·exfalso
  refine hc ?_
  unfold IsS
  rw[←h2,Na.s0_parts h1]
  exact ⟨h1,rfl⟩
 ·exact h
end Go.Proofs.YtijkaknggdaajaaGreatDoor
