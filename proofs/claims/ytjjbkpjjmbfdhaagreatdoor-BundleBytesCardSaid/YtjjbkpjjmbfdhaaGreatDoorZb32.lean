import Derived.Test.YtjjbkpjjmbfdhaaGreatDoorZb01
import Derived.Test.YtjjbkpjjmbfdhaaGreatDoorZb03
import Derived.Test.YtjjbkpjjmbfdhaaGreatDoorZb08
import Derived.Test.YtjjbkpjjmbfdhaaGreatDoorZb09
import Derived.Test.YtjjbkpjjmbfdhaaGreatDoorZb11
import Derived.Test.YtjjbkpjjmbfdhaaGreatDoorZb13
import Derived.Test.YtjjbkpjjmbfdhaaGreatDoorZb20
import Derived.Laws.Tables
import Derived.Laws.Rows
import Derived.RegionTactic
import Derived.BigRegion
import Derived.ChangeAlike
import Derived.Laws.Externs
import Derived.WalkKit
import Derived.Lib.Hide
set_option linter.unusedVariables false
set_option linter.unusedSimpArgs false
set_option maxRecDepth 100000
set_option maxHeartbeats 2000000
namespace Go.Proofs.YtjjbkpjjmbfdhaaGreatDoor
open Lib (hid)
open Go.RowKit
theorem results_row_tmp2 {P:Program} {fn:Func} {p u u2:Tmp} {ty:TypeId} (h:fn.results=#[.cell p ty,.tmp u,.tmp u2]) (tmps:Array Value) (w:World) (g:Nat) (t:TypeId) (cs:Array Value) (fr:Nat×Nat) (d:TypeDesc) (v v2:Value)
  (hp:tmps.getD p undef=.pointer (some ⟨g,0,none⟩)) (hg:w.heap[g]?=some (.cells cs t fr)) (hu:P.underlying ty=some d) (hd:(match d with | .struct _ | .array _ _=>true|_=>false)=true) (hi:(P.info? ty).map (·.size)=some cs.size)
  (hv:tmps.getD u undef=v) (hv2:tmps.getD u2 undef=v2):(results fn tmps).run P w=.ok (.tuple #[.agg cs,v,v2]) w:=by
 have hl:=run_loadVar_row (P:=P) w g t ty cs fr d hg hu hd hi
 have hp':tmps[p]?.getD undef=.pointer (some ⟨g,0,none⟩):=by simpa using hp
 have hv':tmps[u]?.getD undef=v:=by simpa using hv
 have hv2':tmps[u2]?.getD undef=v2:=by simpa using hv2
 simp[results,h,hp',hv',hv2',asAddr,hl,Result.andThen]
def FstPost (A:Nat→Addr) (v:Value) (l:List Nat) (r:Except Nat (Nat×Nat×Nat)) (e:Ending):Prop :=
 match r with
 |.error k=>e=.returned (.tuple #[.agg #[.int .i64 0,.slice none 0 0],.slice none 0 0,errV A k])
 |.ok (t,i,n)=>∃ ab cb ar m cr,i+n+m=l.length∧e=.returned (.tuple #[.agg #[.int .i64 t,.slice ab n cb],.slice ar m cr,.nilIface]) ∧
   (∀ W,Bytes W v l→Bytes W (.slice ab n cb) ((l.drop i).take n))∧Whole0 (.slice ab n cb)∧(∀ W,Bytes W v l→Bytes W (.slice ar m cr) (l.drop (i+n)))∧Whole0 (.slice ar m cr)
theorem set2_heap {w:World} {g:Nat} {x y:Value} {t:TypeId} (h:w.heap[g]?=some (.cells #[x,y] t (0,0))) (v u:Value):((w.setCell ⟨g,0,none⟩ v).setCell ⟨g,1,none⟩ u).heap[g]?=some (.cells #[v,u] t (0,0)):=by
 rw[setCell_heap (setCell_heap h v) u]
 rfl
theorem grown_set2 {w w':World} (h:w.grownBy w' none) {g:Nat} (hg:w.heap.size≤g) (v u:Value):w.grownBy ((w'.setCell ⟨g,0,none⟩ v).setCell ⟨g,1,none⟩ u) none:=grown_set (grown_set h (.inl hg) _) (.inl hg) _
theorem grown_drew {a b:World} {row:Option Nat} (h:a.grownBy b row):a.grownBy b.drew row:=⟨h.os,h.tape,h.output,h.size,h.block⟩
theorem elI:(Tryz.prog.info? 148).map (·.size)=some 2:=by kernel_rfl
theorem tlvFirst_any (A:Nat→Addr) (v:Value) (l:List Nat) (w:World) (hB:Bytes w v l) (h0:Whole0 v) (hl:l.length≤4611686018427387904) (hE:AllErrs w A) :
  Calls Tryz.prog 114 #[v] w fun e w'=>FstPost A v l (Tl.first l) e∧w.grownBy w' none:=by
 have eS:=errs_at hE 2 (by decide)
 have eT:=errs_at hE 5 (by decide)
 simp only[errVars,List.getD_cons_zero,List.getD_cons_succ,Nat.add_one_sub_one] at eS eT
 have HES:=hid eS
 have HET:=hid eT
 have HE:=hid hE
 have hsz:=hid (show 2<w.heap.size∧4<w.heap.size from ⟨hE.lt 1 (by decide),hE.lt 4 (by decide)⟩)
 have HR:Hid (∀ r e,Tl.first l=r→FstPost A v l r e→FstPost A v l (Tl.first l) e):=hid (fun r e h h2=>by rw[h];exact h2)
 obtain ⟨R,hR⟩:∃ R,R=FstPost A v l (Tl.first l):=⟨_,rfl⟩
 rw[←hR] at HR ⊢
 clear hR eS eT hE
 obtain ⟨w0,hw0⟩:∃ w0,w0=w.alloc (.cells #[.int .i64 0,.slice none 0 0] 148):=⟨_,rfl⟩
 have G0:Hid (w.grownBy w0 none):=hid (by rw[hw0];exact World.grownBy_alloc _ _ _)
 have B0:Hid (w0.heap[w.heap.size]?=some (.cells #[.int .i64 0,.slice none 0 0] 148 (0,0))):=hid (by rw[hw0];exact alloc_at _ _)
 have HW0:=hid hw0
 clear hw0
 obtain ⟨g,hg⟩:∃ g,g=w.heap.size:=⟨_,rfl⟩
 have hgw:w.heap.size≤g:=by omega
 have HGW:=hid hgw
 have n3:¬ (2=g):=by have:=hsz.out;omega
 have n5:¬ (4=g):=by have:=hsz.out;omega
 rw[←hg] at B0
 have HG:=hid hg
 clear hg hgw
 have eS:w0.cell? ⟨2,0,none⟩=some (errV A 2):=by rw[World.cell?_of_block (G0.out.block _ hsz.out.1 (by simp))];exact HES.out
 have eT:w0.cell? ⟨4,0,none⟩=some (errV A 5):=by rw[World.cell?_of_block (G0.out.block _ hsz.out.2 (by simp))];exact HET.out
 have c0:=cell_blk B0.out 0 rfl
 have c1:=cell_blk B0.out 1 rfl
 have f0:=free_blk B0.out 0
 have f1:=free_blk B0.out 1
 have HGr:Hid (∀ (n:Nat) (v u:Value) W,W=(((w0.drewN n).setCell ⟨g,0,none⟩ v).setCell ⟨g,1,none⟩ u)→w.grownBy W none):=hid (fun n v u W hW=>by
  rw[hW]
  exact grown_set2 (grown_drewN G0.out _) HGW.out _ _)
 have HFin:Hid (∀ (n:Nat) (v u s:Value) (tmps:Array Value) (y:Value) W,W=(((w0.drewN n).setCell ⟨g,0,none⟩ v).setCell ⟨g,1,none⟩ u)→tmps.getD 2 undef=.pointer (some ⟨g,0,none⟩)→tmps.getD 3 undef=s→tmps.getD 4 undef=y →
   (results Tryz.f114 tmps).run Tryz.prog W=.ok (.tuple #[.agg #[v,u],s,y]) W):=hid (fun n v u s tmps y W hW h2 h3 h4=>by
  have hb:=set2_heap (w:=w0.drewN n) B0.out v u
  rw[←hW] at hb
  exact results_row_tmp2 Tryz.results114 tmps W g _ _ (0,0) _ _ _ h2 hb Tryz.underlying148 rfl elI h3 h4)
 have hB':=hB
 obtain ⟨hlt,a,sb,so,c,rfl,hc,ha,hcell⟩:=hB'
 match l,hB,h0,hl,hlt,hc,ha,hcell,HR with
 |[],hB,h0,hl,hlt,hc,ha,hcell,HR =>
  have HX:=hid (show Tl.first []=.error 2 from rfl)
  clear hB hlt ha hcell
  go_enter Tryz.func114,Tryz.ntmps114
  go_wp2
  rw[←HW0.out,←HG.out]
  go_region
  go_wp2
  exact bodyPost_ret (HFin.out 1 (.int .i64 0) (.slice none 0 0) _ _ _ _ (by rfl) (by rfl) (by rfl) (by rfl)) rfl ⟨HR.out _ _ HX.out rfl,HGr.out 1 (.int .i64 0) (.slice none 0 0) _ rfl⟩
 |x :: r,hB,h0,hl,hlt,hc,ha,hcell,HR =>
  obtain ⟨n,hn⟩:∃ n,n=r.length:=⟨_,rfl⟩
  have HN:=hid hn
  have hlen:(x :: r).length=n+1:=by rw[hn];rfl
  rw[hlen] at hB h0 hl hc ha HR ⊢
  obtain ⟨rfl,hsb⟩:=ha (by omega)
  have hx:=hlt x (by simp)
  have cx:=hcell 0 (by simp)
  simp only[List.getD_cons_zero,Nat.add_zero] at cx
  have cx0:w0.cell? ⟨sb,so,none⟩=some (.int .u8 (x:Int)):=by rw[World.cell?_of_block (G0.out.block _ hsb (by simp))];exact cx
  have cx1:=cx0
  rw[HW0.out] at cx1
  have B1:=hB.from 1 (by omega)
  have W1:=h0.from 1
  simp only[List.drop_succ_cons,List.drop_zero,Nat.add_one_sub_one] at B1 W1
  have HB1:=hid (B1.grown G0.out)
  have HW1:=hid W1
  have HK:=hid (known_any (x:Int))
  clear hB h0 hlt ha hcell hlen B1 W1 cx hn
  cases hk:Tl.known (x:Int) with
  |false =>
   have HX:Hid (Tl.first (x :: r)=.error 5):=hid (by rw[Tl.first,if_pos hk])
   rw[hk] at HK
   clear hk
   go_enter Tryz.func114,Tryz.ntmps114
   go_wp2_with (go_at_call 134;rw[←HW0.out,←HG.out];refine (HK.out _).mono ?_;rintro e w2 ⟨rfl,rfl⟩)
   go_region
   go_wp2
   exact bodyPost_ret (HFin.out 1 (.int .i64 0) (.slice none 0 0) _ _ _ _ (by rfl) (by rfl) (by rfl) (by rfl)) rfl ⟨HR.out _ _ HX.out rfl,HGr.out 1 (.int .i64 0) (.slice none 0 0) _ rfl⟩
  |true =>
   rw[hk] at HK
   have HR1:=hid (rdLen_any A _ r w0 HB1.out HW1.out (by rw[←HN.out];omega) (HE.out.grown G0.out))
   cases hrd:Tl.rdLen r with
   |error k =>
    have HX:Hid (Tl.first (x :: r)=.error k):=hid (by rw[Tl.first,if_neg (by rw[hk];simp),hrd])
    rw[hrd] at HR1
    clear hk hrd
    go_enter Tryz.func114,Tryz.ntmps114
    go_wp2_with (first
     |(go_at_call 134;rw[←HW0.out,←HG.out];refine (HK.out _).mono ?_;rintro e w2 ⟨rfl,rfl⟩)
     |(go_at_call 146;refine HR1.out.mono ?_;rintro e w2 ⟨rfl,mq,rfl⟩))
    exact bodyPost_ret (HFin.out mq (.int .i64 0) (.slice none 0 0) _ _ _ _ (by rfl) (by rfl) (by rfl) (by rfl)) rfl ⟨HR.out _ _ HX.out rfl,HGr.out mq (.int .i64 0) (.slice none 0 0) _ rfl⟩
   |ok p =>
    obtain ⟨q,k⟩:=p
    have HX0:Hid (Tl.first (x :: r)=if r.length-k<q then .error 2 else .ok (x,1+k,q)):=hid (by rw[Tl.first,if_neg (by rw[hk];simp),hrd])
    rw[hrd] at HR1
    clear hk hrd
    by_cases hshort:r.length-k<q
    ·have HX:Hid (Tl.first (x :: r)=.error 2):=hid (by rw[HX0.out,if_pos hshort])
     have HSh:=hid hshort
     clear hshort
     go_enter Tryz.func114,Tryz.ntmps114
     go_wp2_with (first
      |(go_at_call 134;rw[←HW0.out,←HG.out];refine (HK.out _).mono ?_;rintro e w2 ⟨rfl,rfl⟩)
      |(go_at_call 146;refine HR1.out.mono ?_;rintro e w2 ⟨⟨hkr,a2,m2,c2,hm2,rfl,hB2,hW2⟩,mq,rfl⟩;have hlt2:m2<q:=(by have:=HSh.out;omega);clear hm2 hkr hB2 hW2))
     go_region
     go_wp2
     exact bodyPost_ret (HFin.out (mq+1) (.int .i64 0) (.slice none 0 0) _ _ _ _ (by rfl) (by rfl) (by rfl) (by rfl)) rfl ⟨HR.out _ _ HX.out rfl,HGr.out (mq+1) (.int .i64 0) (.slice none 0 0) _ rfl⟩
    ·have HX:Hid (Tl.first (x :: r)=.ok (x,1+k,q)):=hid (by rw[HX0.out,if_neg hshort])
     have HSh:=hid hshort
     clear hshort
     go_enter Tryz.func114,Tryz.ntmps114
     go_wp2_with (first
      |(go_at_call 134;rw[←HW0.out,←HG.out];refine (HK.out _).mono ?_;rintro e w2 ⟨rfl,rfl⟩)
      |(go_at_call 146;refine HR1.out.mono ?_;rintro e w2 ⟨⟨hkr,a2,m2,c2,hm2,rfl,hB2,hW2⟩,mq,rfl⟩;have hlt2:q≤m2:=(by have:=HSh.out;omega);have hqc:=(hB2 _ HB1.out).cap.2;have hqc2:q≤c2:=(by omega);have Hhm:=hid hm2;have HB2:=hid hB2;have HW2:=hid hW2;clear hm2 hkr hB2 hW2))
     go_region
     go_wp2
     refine bodyPost_ret (HFin.out (mq+1) _ _ _ _ _ _ (by rfl) (by rfl) (by rfl) (by rfl)) rfl ⟨HR.out _ _ HX.out ?_,HGr.out (mq+1) _ _ _ rfl⟩
     refine ⟨_,_,_,_,_,?_,rfl,?_,HW2.out.to q hlt2,?_,HW2.out.from q⟩
     ·rw[List.length_cons];have:=Hhm.out;omega
     ·intro W hW
      have h1:=hW.from 1 (by omega)
      rw[List.drop_succ_cons,List.drop_zero] at h1
      have:=(HB2.out W h1).to q hlt2
      rwa [show 1+k=k+1 by omega,List.drop_succ_cons]
     ·intro W hW
      have h1:=hW.from 1 (by omega)
      rw[List.drop_succ_cons,List.drop_zero] at h1
      have:=(HB2.out W h1).from q hlt2
      rw[List.drop_drop] at this
      rwa [show 1+k+q=k+q+1 by omega,List.drop_succ_cons]
theorem run_loadBytes {P:Program} {w:World} {sb:Nat} (l:List Nat):∀ (so:Nat) (acc:List Nat),(∀ j,j<l.length→w.cell? ⟨sb,so+j,none⟩=some (.int .u8 (l.getD j 0:Nat)))→(∀ x∈l,x<256) →
  (Extern.Bytes.loadBytes ⟨sb,so,none⟩ l.length (strOf acc)).run P w=.ok (strOf (acc++l)) w:=by
 induction l with
 |nil=>intro so acc _ _;rw[List.append_nil];rfl
 |cons x r ih =>
  intro so acc h hlt
  have hx:=hlt x (by simp)
  have h0:=h 0 (by simp)
  simp only[List.getD_cons_zero,Nat.add_zero] at h0
  rw[List.length_cons,Extern.Bytes.loadBytes]
  simp only[Sem.run_bind,run_load,h0,Result.andThen]
  rw[addr_addO]
  have e:(strOf acc).push (x:Int).toNat.toUInt8=strOf (acc++[x]):=by
   rw[Int.toNat_natCast]
   simp[strOf,ByteArray.push]
  rw[e]
  have:=ih (so+1) (acc++[x]) (fun j hj=>by have:=h (j+1) (by simp;omega);rw[Nat.add_assoc,Nat.add_comm 1 j,this];simp) (fun y hy=>hlt y (by simp[hy]))
  rw[this,List.append_assoc]
  rfl
theorem run_bytesOf {P:Program} {w:World} {v:Value} {l:List Nat} (hB:Bytes w v l) (h0:Whole0 v):(Extern.Bytes.bytesOf v).run P w=.ok (strOf l) w:=by
 obtain ⟨hlt,a,sb,so,c,rfl,hc,ha,hcell⟩:=hB
 match a with
 |none =>
  obtain ⟨hn,_⟩:=h0 _ _ rfl
  obtain rfl:=List.eq_nil_of_length_eq_zero hn
  rfl
 |some ad =>
  match l,ha,hcell,hlt,hc,h0 with
  |[],_,_,_,_,_=>rfl
  |x :: r,ha,hcell,hlt,_,_ =>
   obtain ⟨e,_⟩:=ha (by simp)
   obtain rfl:=Option.some.inj e
   have:=run_loadBytes (P:=P) (w:=w) (sb:=sb) (x :: r) so [] hcell hlt
   rw[List.nil_append] at this
   exact this
theorem compare_any (v u:Value) (A B:List Nat) (w:World) (hA:Bytes w v A) (hB:Bytes w u B) (hv:Whole0 v) (hu:Whole0 u) :
  Calls Tryz.prog 143 #[v,u] w fun e w'=>e=.returned (.int .i64 (Tl.cmpB A B))∧w'=w:=by
 have h77:(callFunc 175 #[v,u]).run Tryz.prog w=.ok (.value (.int .i64 (Tl.cmpB A B))) w:=by
  rw[@run_callFunc_extern Tryz.prog 175 _ Extern.BytealgCompare.compare Tryz.func175 (by kernel_rfl) (by kernel_rfl) (by kernel_rfl) (by kernel_rfl)]
  have e:Extern.BytealgCompare.compare #[v,u]=(do pure (goInt (Extern.BytealgCompare.cmp (←Extern.Bytes.bytesOf v) (←Extern.Bytes.bytesOf u)))):=rfl
  rw[e]
  simp only[Sem.run_bind,run_bytesOf hA hv,run_bytesOf hB hu,Result.andThen]
  rfl
 obtain ⟨_,va,_,_,vc,rfl,_⟩:=hA
 obtain ⟨_,ua,_,_,uc,rfl,_⟩:=hB
 generalize Tl.cmpB A B=c at *
 go_enter Tryz.func143,Tryz.ntmps143
 go_wp2
 go_ret
 exact ⟨rfl,rfl⟩
theorem clone_any (v:Value) (l:List Nat) (w:World) (hB:Bytes w v l) (h0:Whole0 v) (hl:l.length≤1099511620000) :
  Calls Tryz.prog 70 #[v] w fun e w'=>∃ u,e=.returned u∧FrW w w' u l∧∃ a c,u=.slice a l.length c:=by
 have HB:=hid hB
 have H0:=hid h0
 obtain ⟨hlt,a,sb,so,c,rfl,hc,ha,hcell⟩:=hB
 have Hlt:=hid hlt
 obtain ⟨n,hn⟩:∃ n,n=l.length:=⟨_,rfl⟩
 have HN:=hid hn
 rw[←hn] at HB H0 hl ⊢
 clear hlt hc ha hcell
 have heq:∀ (w:World) (a:Option Addr),(binOp .eql 27 (.slice a n c) (.slice none 0 0)).run Tryz.prog w=.ok (.bool a.isNone) w:=fun w a=>Lib.run_eql_slice_nil w 27 5 a n c 0 0 Tryz.underlying27
 match a,HB,H0,h0 with
 |none,HB,H0,h0 =>
  obtain ⟨h1,h2⟩:=h0 _ _ rfl
  have hl0:l=[]:=List.eq_nil_of_length_eq_zero (by rw[←hn];omega)
  subst hl0
  obtain rfl:n=0:=hn
  subst h2
  clear h0
  go_enter Tryz.func70,Tryz.ntmps70
  go_wp2
  go_ret
  exact ⟨_,rfl,⟨grown_refl _ _,ownsRow_empty _ _ _⟩,_,_,rfl⟩
 |some ad,HB,H0,h0 =>
  clear h0 hn
  have F1:Hid (FrW w (w.alloc (.cells #[] 5)) (.slice (some ⟨w.heap.size,0,none⟩) 0 0) []):=hid ⟨World.grownBy_alloc _ _ _,ownsRow_lit (alloc_at w _) (Nat.le_refl _) (by simp)⟩
  go_enter Tryz.func70,Tryz.ntmps70
  go_wp2_with (at_builtin;refine wpList_appB (by rfl) (.tmp 5) (.tmp 6) 27 (by rfl) w.heap.size 5 (.int .u8 0) 1 Tryz.underlying27 (by kernel_rfl) rfl (by decide) _ 0 [] (by rfl) F1.out.own _ l (by rfl) (HB.out.grown F1.out.grown) H0.out (by rw[←HN.out];omega) F1.out.le ?_;intro v2 w2 ho2 hg2;have F2:=hid (F1.out.step (l':=l) ho2 hg2 rfl);have HO2:=hid ho2;clear ho2 hg2)
  go_ret
  obtain ⟨a2,_,c2,rfl,_⟩:=ownsRow_form F2.out.own
  exact ⟨_,rfl,F2.out,a2,c2,by rw[HN.out];rfl⟩
def LvPost (A:Nat→Addr) (r:Except Nat Nat) (e:Ending):Prop :=
 match r with
 |.error k=>e=.returned (.tuple #[.int .i64 0,errV A k])
 |.ok d=>e=.returned (.tuple #[.int .i64 d,.nilIface])
def lenOf:Value→Nat
 |.slice _ n _=>n
 |_=>0
def plus1:Except Nat Nat→Except Nat Nat
 |.error e=>.error e
 |.ok d=>.ok (1+d)
theorem within_made (L t:Nat) (l:List Nat) (h:Tl.made (t:Int)=true):Tl.within (L+1) t l=plus1 (Tl.loop (Tl.within L) (decide (L=0)) (decide (t=49)) l.length l [] 0):=by
 rw[Tl.within,if_pos h]
 generalize Tl.loop (Tl.within L) (decide (L=0)) (decide (t=49)) l.length l [] 0=r
 cases r <;> rfl
theorem loop_le {rec:Nat→List Nat→Except Nat Nat} {one set:Bool} {K:Nat} (hr:∀ t b m,rec t b=.ok m→m≤K):∀ (f:Nat) (b a:List Nat) (d m:Nat),d≤K→Tl.loop rec one set f b a d=.ok m→m≤K
 |0,b,a,d,m,hd,h=>by rw[Tl.loop] at h;cases h;exact hd
 |f+1,b,a,d,m,hd,h=>by
  rw[Tl.loop] at h
  split at h
  ·cases h;exact hd
  ·split at h
   ·cases h
   ·split at h
    ·cases h
    ·split at h
     ·cases h
     ·rename_i hrec
      split at h
      ·cases h
      ·exact loop_le hr f _ _ _ m (Nat.max_le.2 ⟨hd,hr _ _ _ hrec⟩) h
theorem within_le:∀ (left t:Nat) (b:List Nat) (m:Nat),Tl.within left t b=.ok m→m≤left
 |0,t,b,m,h=>by cases h
 |L+1,t,b,m,h=>by
  rw[Tl.within] at h
  split at h
  ·split at h
   ·cases h
   ·rename_i hlo
    have:=loop_le (within_le L) _ _ _ _ _ (Nat.zero_le _) hlo
    cases h
    omega
  ·cases h;omega
theorem within_any (A:Nat→Addr):∀ (left:Nat),1≤left→left≤16→∀ (t:Nat) (v:Value) (l:List Nat) (w:World),Bytes w v l→Whole0 v→l.length≤1099511620000→AllErrs w A →
  Calls Tryz.prog 145 #[.agg #[.int .i64 t,v],.int .i64 left] w fun e w'=>LvPost A (Tl.within left t l) e∧w.grownBy w' none
 |0,h,_=>absurd h (by decide)
 |L+1,_,hL=>by
  intro t v l w hB h0 hl hE
  have IH:=within_any A L
  have hM:=made_any (t:Int)
  cases hm:Tl.made (t:Int) with
  |false =>
   have HX:Hid (Tl.within (L+1) t l=.ok 1):=hid (by rw[Tl.within,if_neg (by rw[hm];simp)])
   rw[hm] at hM
   have HM:=hid hM
   clear hM hB h0 hE hm IH
   go_enter Tryz.func145,Tryz.ntmps145
   go_wp2_with (go_at_call 55;refine (HM.out _).mono ?_;rintro e w2 ⟨rfl,rfl⟩)
   go_ret2
   exact ⟨by rw[HX.out];rfl,World.grownBy_alloc _ _ _⟩
  |true =>
   obtain ⟨R,hR⟩:∃ R,R=Tl.loop (Tl.within L) (decide (L=0)) (decide (t=49)) l.length l [] 0:=⟨_,rfl⟩
   have HX:Hid (Tl.within (L+1) t l=plus1 R):=hid (by rw[hR];exact within_made L t l hm)
   rw[hm] at hM
   have HM:=hid hM
   have HRR:=hid hR
   obtain ⟨w1,hw1⟩:∃ w1,w1=w.alloc (.cells #[.int .i64 t,v] 148):=⟨_,rfl⟩
   have G1:Hid (w.grownBy w1 none):=hid (by rw[hw1];exact World.grownBy_alloc _ _ _)
   have hb1:w1.heap[w.heap.size]?=some (.cells #[.int .i64 t,v] 148 (0,0)):=by rw[hw1];exact alloc_at _ _
   have HB:=hid (hB.grown G1.out)
   have H0:=hid h0
   have HE:=hid (hE.grown G1.out)
   have HW1:=hid hw1
   obtain ⟨g,hg⟩:∃ g,g=w.heap.size:=⟨_,rfl⟩
   rw[←hg] at hb1
   have HG:=hid hg
   have HB1:=hid hb1
   have HIH:=hid IH
   obtain ⟨_,va,vsb,vso,vc,rfl,_⟩:=hB
   obtain ⟨n,hn⟩:∃ n,n=l.length:=⟨_,rfl⟩
   have HN:=hid hn
   rw[←hn] at HB H0 HW1 HB1 hl ⊢
   have s0:=cell_blk HB1.out 0 rfl
   have s1:=cell_blk HB1.out 1 rfl
   clear hw1 hb1 hg h0 hE hm IH hM hR hn
   go_enter Tryz.func145,Tryz.ntmps145
   go_wp2_with (go_at_call 55;rw[←HW1.out,←HG.out];refine (HM.out _).mono ?_;rintro e w2 ⟨rfl,hw2⟩;have hw2':=hw2.symm;subst hw2';clear hw2)
   go_loopw [6,7,8] (fun d ah b wr=>∃ (dn f:Nat) (al bl:List Nat) (aa:Option Addr) (am ac:Nat) (ba:Option Addr) (bm bc:Nat),d=.int .i64 dn∧dn≤L∧ah=.slice aa am ac∧b=.slice ba bm bc∧Bytes wr (.slice aa am ac) al∧Whole0 (.slice aa am ac)∧Bytes wr (.slice ba bm bc) bl∧Whole0 (.slice ba bm bc) ∧
    bl.length≤f∧bl.length≤1099511620000∧Tl.loop (Tl.within L) (decide (L=0)) (decide (t=49)) f bl al dn=R∧w1.grownBy wr none) (fun _ _ b _=>lenOf b)
   case atStart =>
    exact ⟨0,l.length,[],l,none,0,0,va,n,vc,rfl,Nat.zero_le _,rfl,rfl,⟨by simp,none,0,0,0,rfl,Nat.le_refl _,fun h=>absurd h (Nat.lt_irrefl _),fun j hj=>absurd hj (Nat.not_lt_zero _)⟩,fun n c e=>(by cases e;exact ⟨rfl,rfl⟩),HB.out,H0.out,Nat.le_refl _,by rw[←HN.out];exact hl,HRR.out.symm,grown_refl _ _⟩
   case round =>
    obtain ⟨dn,f,al,bl,aa,am,ac,ba,bm,bc,rfl,hdn,rfl,rfl,hAl,hA0,hBl,hB0,hf,hbl,hloop,hgr⟩:=hrel
    have hbm:=hBl.cap.1
    have hbc:=hBl.cap.2
    have HAl:=hid hAl
    have HA0:=hid hA0
    have HBl:=hid hBl
    have HB0:=hid hB0
    have HLo:=hid hloop
    have HGr:=hid hgr
    clear s0 s1
    have s0:wr.cell? ⟨g,0,none⟩=some (.int .i64 (t:Int)):=by rw[World.cell?_of_block (hgr.block _ (blk_lt HB1.out) (by simp))];exact cell_blk HB1.out 0 rfl
    clear hAl hA0 hBl hB0 hloop hgr
    by_cases hb0:bm=0
    ·subst hb0
     have hbl0:bl=[]:=List.eq_nil_of_length_eq_zero hbm.symm
     have HR:Hid (R=.ok dn):=hid (by rw[←HLo.out,hbl0];cases f <;> simp[Tl.loop])
     clear hf hbl hbm hbl0
     go_wp2
     go_ret2
     exact ⟨by rw[HX.out,HR.out];simp[LvPost,plus1],grown_trans G1.out HGr.out⟩
    ·obtain ⟨f',rfl⟩:∃ f',f=f'+1:=⟨f-1,by omega⟩
     have hne:¬ bl=[]:=fun h=>hb0 (by rw[hbm,h];rfl)
     have HF:=hid (tlvFirst_any A _ bl wr HBl.out HB0.out (by omega) (HE.out.grown HGr.out))
     have hbmx:bm≤1099511620000:=by omega
     have HBM:=hid hbm
     have HFL:=hid hf
     clear hbm hf hbl
     have d0:decide ((0:Int)<(bm:Int))=true:=decide_eq_true (by omega)
     cases hfst:Tl.first bl with
     |error k =>
      have HR:Hid (R=.error k):=hid (by rw[←HLo.out,Tl.loop,if_neg hne,hfst])
      rw[hfst] at HF
      clear hfst hne
      go_wp2_with (go_at_call 114;refine HF.out.mono ?_;rintro e w2 ⟨rfl,hg2⟩;have HG2:=hid hg2;clear hg2)
      go_ret2
      exact ⟨by rw[HX.out,HR.out];simp[LvPost,plus1],grown_trans G1.out (grown_trans HGr.out (grown_alloc HG2.out _))⟩
     |ok p =>
      obtain ⟨t',i,n'⟩:=p
      obtain ⟨q,hq⟩:∃ q,q=i+n':=⟨_,rfl⟩
      have HQ:=hid hq
      have HQP:=hid (show 2≤q from by rw[hq];exact Nat.le_trans (Tl.first_two hfst) (Nat.le_add_right _ _))
      clear hq
      have HL1:Hid (R=if decide (L=0) then .error 6 else match Tl.within L t' ((bl.drop i).take n') with
        |.error e=>.error e
        |.ok m=>if decide (t=49)&&decide (Tl.cmpB (bl.take q) al<0) then .error 7 else Tl.loop (Tl.within L) (decide (L=0)) (decide (t=49)) f' (bl.drop q) (bl.take q) (max dn m)):=hid (by
       rw[←HLo.out,Tl.loop,if_neg hne,hfst,HQ.out]
       rfl)
      rw[hfst] at HF
      clear hfst hne
      have HED:Hid (∀ W,wr.grownBy W none→W.cell? ⟨5,0,none⟩=some (errV A 6)∧W.cell? ⟨6,0,none⟩=some (errV A 7)):=hid (fun W hW=>by
       have hEE:=HE.out.grown (grown_trans HGr.out hW)
       have e6:=errs_at hEE 6 (by decide)
       have e7:=errs_at hEE 7 (by decide)
       simp only[errVars,List.getD_cons_zero,List.getD_cons_succ,Nat.add_one_sub_one] at e6 e7
       exact ⟨e6,e7⟩)
      by_cases hL0:L=0
      ·subst hL0
       have HR:Hid (R=.error 6):=hid (by rw[HL1.out];rfl)
       clear HL1 HIH
       go_wp2_with (go_at_call 114;refine HF.out.mono ?_;rintro e w2 ⟨⟨ab,cb,ar,m,cr,hlen,rfl,hp1,W1,hp2,W2⟩,hg2⟩;have HG2:=hid hg2;have eD:=fun o=>(HED.out (w2.alloc o) (grown_alloc hg2 o)).1;clear hg2 hlen hp1 hp2 W1 W2)
       go_quiet (fail)
       go_wp2
       go_ret2
       exact ⟨by rw[HX.out,HR.out];simp[LvPost,plus1],grown_trans G1.out (grown_trans HGr.out (grown_drewN (grown_alloc HG2.out _) _))⟩
      ·have d1:(((L:Int)+1)==1)=false:=by simp;omega
       obtain ⟨r',hr'⟩:∃ r',r'=Tl.within L t' ((bl.drop i).take n'):=⟨_,rfl⟩
       have hle:=within_le L t' ((bl.drop i).take n')
       rw[←hr'] at HL1 hle
       have HI:Hid (∀ (W:World) ab cb,wr.grownBy W none→Bytes W (.slice ab n' cb) ((bl.drop i).take n')→Whole0 (.slice ab n' cb)→Calls Tryz.prog 145 #[.agg #[.int .i64 t',.slice ab n' cb],.int .i64 L] W fun e w'=>LvPost A r' e∧W.grownBy w' none):=hid (fun W ab cb hW hb h0=>by
        rw[hr']
        exact HIH.out (by omega) (by omega) t' _ _ W hb h0 (by rw[List.length_take,List.length_drop,←HBM.out];omega) (HE.out.grown (grown_trans HGr.out hW)))
       have HLE:=hid hle
       clear HIH hr' hle
       cases r' with
       |error k =>
        have HR:Hid (R=.error k):=hid (by rw[HL1.out,if_neg (by simpa using hL0)])
        clear HL1
        go_wp2_with (first
         |(go_at_call 114;refine HF.out.mono ?_;rintro e w2 ⟨⟨ab,cb,ar,m,cr,hlen,rfl,hp1,W1,hp2,W2⟩,hg2⟩;have HG2:=hid hg2;have HP1:=hid hp1;have HW1':=hid W1;clear hg2 hlen hp1 hp2 W1 W2)
         |(go_at_call 145;refine (HI.out _ ab cb (grown_alloc HG2.out _) (HP1.out _ (HBl.out.grown (grown_alloc HG2.out _))) HW1'.out).mono ?_;rintro e w4 ⟨rfl,hg4⟩;have HG4:=hid (grown_trans (grown_alloc HG2.out _) hg4);clear hg4))
        go_ret2
        exact ⟨by rw[HX.out,HR.out];simp[LvPost,plus1],grown_trans G1.out (grown_trans HGr.out HG4.out)⟩
       |ok mm =>
        have hmm:mm≤L:=HLE.out mm rfl
        have HL2:Hid (R=if decide (t=49)&&decide (Tl.cmpB (bl.take q) al<0) then .error 7 else Tl.loop (Tl.within L) (decide (L=0)) (decide (t=49)) f' (bl.drop q) (bl.take q) (max dn mm)):=hid (by rw[HL1.out,if_neg (by simpa using hL0)])
        clear HL1
        obtain ⟨c,hc⟩:∃ c,c=Tl.cmpB (bl.take q) al:=⟨_,rfl⟩
        have HC:=hid hc
        by_cases h49:t=49
        ·have d49:((t:Int)==49)=true:=by rw[h49];rfl
         rw[←hc] at HL2
         by_cases hc0:c<0
         ·have HR:Hid (R=.error 7):=hid (by rw[HL2.out,if_pos (by simp[h49,hc0])])
          clear HL2 hc h49
          go_wp2_with (first
           |(go_at_call 114;refine HF.out.mono ?_;rintro e w2 ⟨⟨ab,cb,ar,m,cr,hlen,rfl,hp1,W1,hp2,W2⟩,hg2⟩;have HG2:=hid hg2;have HP1:=hid hp1;have HW1':=hid W1;have HP2:=hid hp2;have HW2':=hid W2;have hqm:q+m=bm:=(by have:=HBM.out;have:=HQ.out;omega);have e1:(bm:Int)-(m:Int)=((q:Nat):Int):=(by omega);have hqc:q≤bc:=(by omega);have HQM:=hid hqm;clear hg2 hlen hp1 hp2 W1 W2 hqm)
           |(go_at_call 145;refine (HI.out _ ab cb (grown_alloc HG2.out _) (HP1.out _ (HBl.out.grown (grown_alloc HG2.out _))) HW1'.out).mono ?_;rintro e w4 ⟨rfl,hg4⟩;have HG4:=hid (grown_trans (grown_alloc HG2.out _) hg4);have s4:w4.cell? ⟨g,0,none⟩=some (.int .i64 (t:Int)):=(by rw[World.cell?_of_block ((grown_trans HGr.out HG4.out).block _ (blk_lt HB1.out) (by simp))];exact cell_blk HB1.out 0 rfl);have eO:=(HED.out w4 HG4.out).2;clear hg4)
           |(go_at_call 143;refine (compare_any _ _ (bl.take q) al _ ((HBl.out.to q (by have:=HQM.out;omega)).grown HG4.out) (HAl.out.grown HG4.out) (HB0.out.to q (by have:=HQM.out;omega)) HA0.out).mono ?_;rw[←HC.out];rintro e w5 ⟨rfl,hw5⟩;have hw5':=hw5.symm;subst hw5';clear hw5))
          go_quiet (fail)
          go_wp2
          go_ret2
          exact ⟨by rw[HX.out,HR.out];simp[LvPost,plus1],grown_trans G1.out (grown_trans HGr.out (grown_drewN HG4.out _))⟩
         ·have HRn:Hid (R=Tl.loop (Tl.within L) (decide (L=0)) (decide (t=49)) f' (bl.drop q) (bl.take q) (max dn mm)):=hid (by rw[HL2.out,if_neg (by simp[hc0])])
          clear HL2 hc h49
          go_wp2_with (first
           |(go_at_call 114;refine HF.out.mono ?_;rintro e w2 ⟨⟨ab,cb,ar,m,cr,hlen,rfl,hp1,W1,hp2,W2⟩,hg2⟩;have HG2:=hid hg2;have HP1:=hid hp1;have HW1':=hid W1;have HP2:=hid hp2;have HW2':=hid W2;have hqm:q+m=bm:=(by have:=HBM.out;have:=HQ.out;omega);have e1:(bm:Int)-(m:Int)=((q:Nat):Int):=(by omega);have hqc:q≤bc:=(by omega);have HQM:=hid hqm;clear hg2 hlen hp1 hp2 W1 W2 hqm)
           |(go_at_call 145;refine (HI.out _ ab cb (grown_alloc HG2.out _) (HP1.out _ (HBl.out.grown (grown_alloc HG2.out _))) HW1'.out).mono ?_;rintro e w4 ⟨rfl,hg4⟩;have HG4:=hid (grown_trans (grown_alloc HG2.out _) hg4);have s4:w4.cell? ⟨g,0,none⟩=some (.int .i64 (t:Int)):=(by rw[World.cell?_of_block ((grown_trans HGr.out HG4.out).block _ (blk_lt HB1.out) (by simp))];exact cell_blk HB1.out 0 rfl);have eO:=(HED.out w4 HG4.out).2;clear hg4)
           |(go_at_call 143;refine (compare_any _ _ (bl.take q) al _ ((HBl.out.to q (by have:=HQM.out;omega)).grown HG4.out) (HAl.out.grown HG4.out) (HB0.out.to q (by have:=HQM.out;omega)) HA0.out).mono ?_;rw[←HC.out];rintro e w5 ⟨rfl,hw5⟩;have hw5':=hw5.symm;subst hw5';clear hw5))
          go_roundw
          case rel =>
           refine ⟨max dn mm,f',bl.take q,bl.drop q,_,_,_,_,_,_,?_,Nat.max_le.2 ⟨hdn,hmm⟩,rfl,rfl,(HBl.out.to q (by have:=HQM.out;omega)).grown HG4.out,HB0.out.to q (by have:=HQM.out;omega),?_,HW2'.out,?_,?_,HRn.out.symm,grown_trans HGr.out HG4.out⟩
           ·refine congrArg (Value.int IntKind.i64) ?_
            omega
           ·have:=(HP2.out _ HBl.out).grown HG4.out
            rwa [←HQ.out] at this
           ·rw[List.length_drop,←HBM.out]
            have:=HQP.out
            have:=HFL.out
            have:=HBM.out
            omega
           ·rw[List.length_drop,←HBM.out]
            omega
          case measure =>
           have:=HQP.out
           have:=HQM.out
           simp[lenOf]
           omega
        ·have d49:((t:Int)==49)=false:=by simp;omega
         have HRn:Hid (R=Tl.loop (Tl.within L) (decide (L=0)) (decide (t=49)) f' (bl.drop q) (bl.take q) (max dn mm)):=hid (by rw[HL2.out,if_neg (by simp[h49])])
         clear HL2 hc h49
         go_wp2_with (first
          |(go_at_call 114;refine HF.out.mono ?_;rintro e w2 ⟨⟨ab,cb,ar,m,cr,hlen,rfl,hp1,W1,hp2,W2⟩,hg2⟩;have HG2:=hid hg2;have HP1:=hid hp1;have HW1':=hid W1;have HP2:=hid hp2;have HW2':=hid W2;have hqm:q+m=bm:=(by have:=HBM.out;have:=HQ.out;omega);have e1:(bm:Int)-(m:Int)=((q:Nat):Int):=(by omega);have hqc:q≤bc:=(by omega);have HQM:=hid hqm;clear hg2 hlen hp1 hp2 W1 W2 hqm)
          |(go_at_call 145;refine (HI.out _ ab cb (grown_alloc HG2.out _) (HP1.out _ (HBl.out.grown (grown_alloc HG2.out _))) HW1'.out).mono ?_;rintro e w4 ⟨rfl,hg4⟩;have HG4:=hid (grown_trans (grown_alloc HG2.out _) hg4);have s4:w4.cell? ⟨g,0,none⟩=some (.int .i64 (t:Int)):=(by rw[World.cell?_of_block ((grown_trans HGr.out HG4.out).block _ (blk_lt HB1.out) (by simp))];exact cell_blk HB1.out 0 rfl);have eO:=(HED.out w4 HG4.out).2;clear hg4))
         go_roundw
         case rel =>
          refine ⟨max dn mm,f',bl.take q,bl.drop q,_,_,_,_,_,_,?_,Nat.max_le.2 ⟨hdn,hmm⟩,rfl,rfl,(HBl.out.to q (by have:=HQM.out;omega)).grown HG4.out,HB0.out.to q (by have:=HQM.out;omega),?_,HW2'.out,?_,?_,HRn.out.symm,grown_trans HGr.out HG4.out⟩
          ·refine congrArg (Value.int IntKind.i64) ?_
           omega
          ·have:=(HP2.out _ HBl.out).grown HG4.out
           rwa [←HQ.out] at this
          ·rw[List.length_drop,←HBM.out]
           have:=HQP.out
           have:=HFL.out
           have:=HBM.out
           omega
          ·rw[List.length_drop,←HBM.out]
           omega
         case measure =>
          have:=HQP.out
          have:=HQM.out
          simp[lenOf]
          omega
theorem levels_any (A:Nat→Addr) (v:Value) (l:List Nat) (w:World) (hB:Bytes w v l) (h0:Whole0 v) (hl:l.length≤1099511620000) (hE:AllErrs w A) :
  Calls Tryz.prog 113 #[v] w fun e w'=>LvPost A (Tl.levels l) e∧w.grownBy w' none:=by
 have HED:Hid (∀ W,w.grownBy W none→W.cell? ⟨3,0,none⟩=some (errV A 3)∧W.cell? ⟨0,0,none⟩=some (errV A 4)):=hid (fun W hW=>by
  have hEE:=hE.grown hW
  have e3:=errs_at hEE 3 (by decide)
  have e4:=errs_at hEE 4 (by decide)
  simp only[errVars,List.getD_cons_zero,List.getD_cons_succ,Nat.add_one_sub_one] at e3 e4
  exact ⟨e3,e4⟩)
 have HF:=hid (tlvFirst_any A v l w hB h0 (by omega) hE)
 have HB:=hid hB
 have HE:=hid hE
 obtain ⟨_,va,vsb,vso,vc,rfl,_⟩:=hB
 obtain ⟨n,hn⟩:∃ n,n=l.length:=⟨_,rfl⟩
 have HN:=hid hn
 rw[←hn] at HB HF hl h0 ⊢
 clear h0 hE hn
 by_cases hbig:65536<n
 ·have HX:Hid (Tl.levels l=.error 3):=hid (by rw[Tl.levels,if_pos (by rw[←HN.out];exact hbig)])
  have eL:=(HED.out w (grown_refl _ _)).1
  go_enter Tryz.func113,Tryz.ntmps113
  go_wp2
  go_quiet (fail)
  go_wp2
  go_ret2
  exact ⟨by rw[HX.out];simp[LvPost],grown_drewN (grown_refl _ _) _⟩
 ·cases hfst:Tl.first l with
  |error k =>
   have HX:Hid (Tl.levels l=.error k):=hid (by rw[Tl.levels,if_neg (by rw[←HN.out];exact hbig),hfst])
   rw[hfst] at HF
   clear hfst
   go_enter Tryz.func113,Tryz.ntmps113
   go_wp2_with (go_at_call 114;refine HF.out.mono ?_;rintro e w2 ⟨rfl,hg2⟩;have HG2:=hid hg2;clear hg2)
   go_ret2
   exact ⟨by rw[HX.out];simp[LvPost],grown_alloc HG2.out _⟩
  |ok p =>
   obtain ⟨t,i,m⟩:=p
   have HX0:Hid (Tl.levels l=if i+m<l.length then .error 4 else Tl.within 16 t ((l.drop i).take m)):=hid (by rw[Tl.levels,if_neg (by rw[←HN.out];exact hbig),hfst])
   rw[hfst] at HF
   clear hfst
   by_cases hmore:i+m<n
   ·have HX:Hid (Tl.levels l=.error 4):=hid (by rw[HX0.out,if_pos (by rw[←HN.out];exact hmore)])
    have HMo:=hid hmore
    clear hmore
    go_enter Tryz.func113,Tryz.ntmps113
    go_wp2_with (go_at_call 114;refine HF.out.mono ?_;rintro e w2 ⟨⟨ab,cb,ar,mr,cr,hlen,rfl,hp1,W1,hp2,W2⟩,hg2⟩;have HG2:=hid hg2;have hmr:0<mr:=(by have:=HN.out;have:=HMo.out;omega);have d0:decide ((0:Int)<(mr:Int))=true:=decide_eq_true (by omega);have eF:=fun o=>(HED.out (w2.alloc o) (grown_alloc hg2 o)).2;clear hg2 hlen hp1 hp2 W1 W2)
    go_quiet (fail)
    go_wp2
    go_ret2
    exact ⟨by rw[HX.out];simp[LvPost],grown_drewN (grown_alloc HG2.out _) _⟩
   ·have HX:Hid (Tl.levels l=Tl.within 16 t ((l.drop i).take m)):=hid (by rw[HX0.out,if_neg (by rw[←HN.out];exact hmore)])
    obtain ⟨r,hr⟩:∃ r,r=Tl.within 16 t ((l.drop i).take m):=⟨_,rfl⟩
    rw[←hr] at HX
    have HI:Hid (∀ (W:World) ab cb,w.grownBy W none→Bytes W (.slice ab m cb) ((l.drop i).take m)→Whole0 (.slice ab m cb)→Calls Tryz.prog 145 #[.agg #[.int .i64 t,.slice ab m cb],.int .i64 16] W fun e w'=>LvPost A r e∧W.grownBy w' none):=hid (fun W ab cb hW hb h0=>by
     rw[hr]
     exact within_any A 16 (by decide) (by decide) t _ _ W hb h0 (by rw[List.length_take,List.length_drop,←HN.out];omega) (HE.out.grown hW))
    have HMo:=hid hmore
    clear hr hmore
    cases r with
    |error k =>
     go_enter Tryz.func113,Tryz.ntmps113
     go_wp2_with (first
      |(go_at_call 114;refine HF.out.mono ?_;rintro e w2 ⟨⟨ab,cb,ar,mr,cr,hlen,rfl,hp1,W1,hp2,W2⟩,hg2⟩;have HG2:=hid hg2;have HP1:=hid hp1;have HW1':=hid W1;have hmr:mr=0:=(by have:=HN.out;have:=HMo.out;omega);subst hmr;clear hg2 hlen hp1 hp2 W1 W2)
      |(go_at_call 145;refine (HI.out _ ab cb (grown_alloc HG2.out _) (HP1.out _ (HB.out.grown (grown_alloc HG2.out _))) HW1'.out).mono ?_;rintro e w4 ⟨rfl,hg4⟩;have HG4:=hid (grown_trans (grown_alloc HG2.out _) hg4);clear hg4))
     go_ret2
     exact ⟨by rw[HX.out];simp[LvPost],HG4.out⟩
    |ok d =>
     go_enter Tryz.func113,Tryz.ntmps113
     go_wp2_with (first
      |(go_at_call 114;refine HF.out.mono ?_;rintro e w2 ⟨⟨ab,cb,ar,mr,cr,hlen,rfl,hp1,W1,hp2,W2⟩,hg2⟩;have HG2:=hid hg2;have HP1:=hid hp1;have HW1':=hid W1;have hmr:mr=0:=(by have:=HN.out;have:=HMo.out;omega);subst hmr;clear hg2 hlen hp1 hp2 W1 W2)
      |(go_at_call 145;refine (HI.out _ ab cb (grown_alloc HG2.out _) (HP1.out _ (HB.out.grown (grown_alloc HG2.out _))) HW1'.out).mono ?_;rintro e w4 ⟨rfl,hg4⟩;have HG4:=hid (grown_trans (grown_alloc HG2.out _) hg4);clear hg4))
     go_ret2
     exact ⟨by rw[HX.out];simp[LvPost],HG4.out⟩
def chkV (A:Nat→Addr):Except Nat Nat→Value
 |.error k=>errV A k
 |.ok _=>.nilIface
theorem check_any (A:Nat→Addr) (v:Value) (l:List Nat) (w:World) (hB:Bytes w v l) (h0:Whole0 v) (hl:l.length≤1099511620000) (hE:AllErrs w A) :
  Calls Tryz.prog 76 #[v] w fun e w'=>e=.returned (chkV A (Tl.levels l))∧w.grownBy w' none:=by
 have HL:=levels_any A v l w hB h0 hl hE
 cases h:Tl.levels l with
 |error k =>
  rw[h] at HL
  have HL':=hid HL
  clear HL h hB h0 hl hE
  go_enter Tryz.func76,Tryz.ntmps76
  go_wp2_with (go_at_call 113;refine HL'.out.mono ?_;rintro e w2 ⟨rfl,hg2⟩)
  go_ret
  exact ⟨rfl,hg2⟩
 |ok d =>
  rw[h] at HL
  have HL':=hid HL
  clear HL h hB h0 hl hE
  go_enter Tryz.func76,Tryz.ntmps76
  go_wp2_with (go_at_call 113;refine HL'.out.mono ?_;rintro e w2 ⟨rfl,hg2⟩)
  go_ret
  exact ⟨rfl,hg2⟩
structure Rw (w w':World) (base:Nat) (v0 v:Value) (l:List Nat):Prop where
 own:w'.ownsRow base 5 1 v l.length (cellsL l)
 grown:w.grownBy w' v0.ownBlock
 same:v.ownBlock=v0.ownBlock∨∃ g,v.ownBlock=some g∧w.heap.size≤g
theorem Rw.start {w:World} {base:Nat} {v:Value} {l:List Nat} {m:Nat} (h:w.ownsRow base 5 1 v m (cellsL l)):Rw w w base v v l:=by
 have hm:m=l.length:=by have:=h.1;simpa [cellsL] using this.symm
 subst hm
 exact ⟨h,grown_refl _ _,.inl rfl⟩
theorem Rw.alloc {w w':World} {base:Nat} {v0 v:Value} {l:List Nat} (h:Rw w w' base v0 v l) (o:Obj):Rw w (w'.alloc o) base v0 v l:=⟨h.own.alloc o,grown_alloc h.grown o,h.same⟩
theorem Rw.step {w b c:World} {base:Nat} {v0 v v':Value} {l l':List Nat} {n':Nat} {xs:List Value} (h:Rw w b base v0 v l) (ho:c.ownsRow base 5 1 v' n' xs) (hg:b.grownBy c v.ownBlock) (hs:v'.ownBlock=v.ownBlock∨v'.ownBlock=some b.heap.size) (e:xs=cellsL l'):Rw w c base v0 v' l':=by
 subst e
 have hn:n'=l'.length:=by have:=ho.1;rw[cellsL_len] at this;omega
 subst hn
 refine ⟨ho,?_,?_⟩
 ·rcases h.same with h1|⟨g,h1,h2⟩
  ·rw[h1] at hg;exact grown_trans h.grown hg
  ·rw[h1] at hg
   exact ⟨hg.os.trans h.grown.os,hg.tape.trans h.grown.tape,hg.output.trans h.grown.output,Nat.le_trans h.grown.size hg.size,fun i hi hne=>(hg.block i (Nat.lt_of_lt_of_le hi h.grown.size) (by simp;omega)).trans (h.grown.block i hi hne)⟩
 ·rcases hs with h1|h1
  ·rw[h1];exact h.same
  ·exact .inr ⟨_,h1,h.grown.size⟩
section
variable {P:Program}
theorem wpList_app1s {w:World} {ops:Array Oper} {rest:List Oper} {o:Oper} {a:Act} {Q:Exit→Act→World→Prop} (hgd:o.guard=none) (s x:Operand) (t:TypeId)
  (ho:o.op=.call { callee:=.builtin .append,args:=#[s,x],argTypes:=#[t,t] })
  (base:Nat) (e:TypeId) (z:Value) (bytes:Nat) (ht:P.underlying t=some (.slice e)) (hi:(P.info? e).map (fun i=>(i.zero,i.size,i.bytes))=some (some z,1,bytes)) (hzs:z.cells.size=1) (hby:bytes≤64)
  (v:Value) (n:Nat) (xs:List Value) (hs:a.eval s=v) (hown:w.ownsRow base e 1 v n xs)
  (g k:Nat) (cs:Array Value) (t':TypeId) (fr:Nat×Nat) (hx:a.eval x=.slice (some ⟨g,0,none⟩) 1 1) (hg:w.heap[g]?=some (.cells cs t' fr)) (hc:cs=#[.int .u8 (k:Nat)]) (hk:k<256)
  (h63:n+1≤1099511627776) (hbase:base≤w.heap.size)
  (h:∀ v' w',w'.ownsRow base e 1 v' (n+1) (xs++cellsL [k])→w.grownBy w' v.ownBlock→(v'.ownBlock=v.ownBlock∨v'.ownBlock=some w.heap.size)→wpList P ops Q rest (a.put o.dst v') w'):wpList P ops Q (o :: rest) a w:=by
 subst hc
 exact wpList_appB2 hgd s x t ho base e z bytes ht hi hzs hby v n xs hs hown _ [k] hx (Bytes.lit (l:=[k]) hg (by simpa using hk)) (Whole0.some _ _ _) h63 hbase h
end
theorem appLen_any (v:Value) (n base:Nat) (xs:List Nat) (w:World) (ho:w.ownsRow base 5 1 v xs.length (cellsL xs)) (hb:base≤w.heap.size) (hm:xs.length≤1099511620000) (hn:n≤65530) :
  Calls Tryz.prog 136 #[v,.int .i64 n] w fun e w'=>∃ v',e=.returned v'∧Rw w w' base v v' (xs++Tl.lenB n):=by
 have HM:=hid (more_any n (by omega) w)
 have R0:=hid (Rw.start ho)
 clear ho
 by_cases h1:n<128
 ·have e0:Tl.more n=0:=by unfold Tl.more;rw[if_pos h1]
  have HX:=hid (lenB1 h1)
  rw[e0] at HM
  clear e0
  go_enter Tryz.func136,Tryz.ntmps136
  go_wp2_with (first
   |(go_at_call 170;refine HM.out.mono ?_;rintro e w2 ⟨rfl,hw2⟩;have hw2':=hw2.symm;subst hw2';clear hw2)
   |(at_builtin;refine wpList_app1s (by rfl) (.tmp 11) (.tmp 14) 27 (by rfl) base 5 (.int .u8 0) 1 Tryz.underlying27 (by kernel_rfl) rfl (by decide) _ _ _ (by rfl) (R0.out.alloc _).own _ n _ _ _ (by rfl) (alloc_at _ _) (by simp) (by omega) (by omega) (by rw[alloc_size];omega) ?_;intro v2 w2 ho2 hg2 hs2;have R2:=hid ((R0.out.alloc _).step (l':=xs++[n]) ho2 hg2 hs2 (cellsL_append _ _).symm);clear ho2 hg2 hs2))
  go_ret
  exact ⟨_,rfl,by rw[HX.out];exact R2.out⟩
 ·by_cases h2:n<256
  ·have e0:Tl.more n=1:=by unfold Tl.more;rw[if_neg h1,if_pos h2]
   have HX:=hid (lenB2 h1 h2)
   rw[e0] at HM
   clear e0
   go_enter Tryz.func136,Tryz.ntmps136
   go_wp2_with (first
    |(go_at_call 170;refine HM.out.mono ?_;rintro e w2 ⟨rfl,hw2⟩;have hw2':=hw2.symm;subst hw2';clear hw2)
    |(at_builtin;refine wpList_app1s (by rfl) (.tmp 16) (.tmp 20) 27 (by rfl) base 5 (.int .u8 0) 1 Tryz.underlying27 (by kernel_rfl) rfl (by decide) _ _ _ (by rfl) (R0.out.alloc _).own _ 129 _ _ _ (by rfl) (alloc_at _ _) (by simp) (by omega) (by omega) (by rw[alloc_size];omega) ?_;intro v2 w2 ho2 hg2 hs2;have R2:=hid ((R0.out.alloc _).step (l':=xs++[129]) ho2 hg2 hs2 (cellsL_append _ _).symm);clear ho2 hg2 hs2))
   refine wp_loop_rounds 2 ?_
   rw[rounds_succ]
   have b2:base≤w2.heap.size:=Nat.le_trans hb R2.out.grown.size
   go_wp2_with (at_builtin;refine wpList_app1s (by rfl) (.tmp 28) (.tmp 34) 27 (by rfl) base 5 (.int .u8 0) 1 Tryz.underlying27 (by kernel_rfl) rfl (by decide) _ _ _ (by rfl) (R2.out.alloc _).own _ n _ _ _ (by rfl) (alloc_at _ _) (by simp) (by omega) (by rw[List.length_append];simp;omega) (by rw[alloc_size];omega) ?_;intro v3 w3 ho3 hg3 hs3;have R3:=hid ((R2.out.alloc _).step (l':=xs++[129]++[n]) ho3 hg3 hs3 (cellsL_append _ _).symm);clear ho3 hg3 hs3)
   rw[rounds_succ]
   go_wp2
   go_ret
   exact ⟨_,rfl,by rw[HX.out];have:=R3.out;rwa [List.append_assoc] at this⟩
  ·have e0:Tl.more n=2:=by unfold Tl.more;rw[if_neg h1,if_neg h2,if_pos (by omega)]
   have HX:=hid (lenB3 h2 (by omega))
   rw[e0] at HM
   have hq:n/256<256:=by omega
   have hq2:(n:Int)/256<256:=by omega
   have hn1:n%256<256:=by omega
   have HN:=hid hn
   clear e0 h1 h2 hn
   go_enter Tryz.func136,Tryz.ntmps136
   go_wp2_with (first
    |(go_at_call 170;refine HM.out.mono ?_;rintro e w2 ⟨rfl,hw2⟩;have hw2':=hw2.symm;subst hw2';clear hw2)
    |(at_builtin;refine wpList_app1s (by rfl) (.tmp 16) (.tmp 20) 27 (by rfl) base 5 (.int .u8 0) 1 Tryz.underlying27 (by kernel_rfl) rfl (by decide) _ _ _ (by rfl) (R0.out.alloc _).own _ (130) _ _ _ (by rfl) (alloc_at _ _) (by simp) (by omega) (by simp;omega) (by have:=R0.out.grown.size;rw[alloc_size];omega) ?_;intro v2 w2 ho hg hs;have R2:=hid ((R0.out.alloc _).step (l':=xs++[130]) ho hg hs (cellsL_append _ _).symm);clear ho hg hs))
   refine wp_loop_rounds 3 ?_
   rw[rounds_succ]
   go_wp2_with (at_builtin;refine wpList_app1s (by rfl) (.tmp 28) (.tmp 34) 27 (by rfl) base 5 (.int .u8 0) 1 Tryz.underlying27 (by kernel_rfl) rfl (by decide) _ _ _ (by rfl) (R2.out.alloc _).own _ (n/256) _ _ _ (by rfl) (alloc_at _ _) (by simp) (by omega) (by simp;omega) (by have:=R2.out.grown.size;rw[alloc_size];omega) ?_;intro v3 w3 ho hg hs;have R3:=hid ((R2.out.alloc _).step (l':=xs++[130]++[n/256]) ho hg hs (cellsL_append _ _).symm);clear ho hg hs)
   rw[rounds_succ]
   go_wp2_with (at_builtin;refine wpList_app1s (by rfl) (.tmp 28) (.tmp 34) 27 (by rfl) base 5 (.int .u8 0) 1 Tryz.underlying27 (by kernel_rfl) rfl (by decide) _ _ _ (by rfl) (R3.out.alloc _).own _ (n%256) _ _ _ (by rfl) (alloc_at _ _) (by simp) (by omega) (by simp;omega) (by have:=R3.out.grown.size;rw[alloc_size];omega) ?_;intro v4 w4 ho hg hs;have R4:=hid ((R3.out.alloc _).step (l':=xs++[130]++[n/256]++[n%256]) ho hg hs (cellsL_append _ _).symm);clear ho hg hs)
   rw[rounds_succ]
   go_wp2
   go_ret
   exact ⟨_,rfl,by rw[HX.out];have:=R4.out;simp only[List.append_assoc,List.cons_append,List.nil_append] at this;exact this⟩
theorem ownsRow_low {w:World} {base base':Nat} {e:TypeId} {size:Nat} {v:Value} {n:Nat} {xs:List Value} (h:w.ownsRow base' e size v n xs) (hb:base≤base'):w.ownsRow base e size v n xs:=by
 refine ⟨h.1,?_⟩
 rcases h.2 with h1|⟨g,cap,cur,h1,h2,h3⟩
 ·exact .inl h1
 ·exact .inr ⟨g,cap,cur,h1,Nat.le_trans hb h2,h3⟩
theorem FrW.of {w w1 w':World} {v:Value} {l:List Nat} (h:FrW w1 w' v l) (hg:w.grownBy w1 none):FrW w w' v l:=⟨grown_trans hg h.grown,ownsRow_low h.own hg.size⟩
def PutPost (A:Nat→Addr) (w w':World) (t:Int) (l:List Nat) (e:Ending):Prop :=
 if Tl.known t=false then e=.returned (.tuple #[.slice none 0 0,errV A 5])
 else if 65530<l.length then e=.returned (.tuple #[.slice none 0 0,errV A 3])
 else ∃ u,e=.returned (.tuple #[u,.nilIface])∧FrW w w' u (Tl.elem t.toNat l)
theorem tput_any (A:Nat→Addr) (t:Int) (v:Value) (l:List Nat) (w:World) (hB:Bytes w v l) (h0:Whole0 v) (hl:l.length≤1099511620000) (hE:AllErrs w A) :
  Calls Tryz.prog 102 #[.agg #[.int .i64 t,v]] w fun e w'=>PutPost A w w' t l e∧w.grownBy w' none:=by
 have HED:Hid (∀ W,w.grownBy W none→W.cell? ⟨4,0,none⟩=some (errV A 5)∧W.cell? ⟨3,0,none⟩=some (errV A 3)):=hid (fun W hW=>by
  have hEE:=hE.grown hW
  have e5:=errs_at hEE 5 (by decide)
  have e3:=errs_at hEE 3 (by decide)
  simp only[errVars,List.getD_cons_zero,List.getD_cons_succ,Nat.add_one_sub_one] at e5 e3
  exact ⟨e5,e3⟩)
 have HK:=hid (known_any t)
 have HB:=hid hB
 have H0:=hid h0
 have hkn:=fun h=>Tl.known_nat t h
 obtain ⟨_,va,vsb,vso,vc,rfl,_⟩:=hB
 obtain ⟨n,hn⟩:∃ n,n=l.length:=⟨_,rfl⟩
 have HN:=hid hn
 rw[←hn] at HB H0 hl ⊢
 clear hE h0 hn
 cases hk:Tl.known t with
 |false =>
  have HX:Hid (∀ e w',e=Ending.returned (.tuple #[.slice none 0 0,errV A 5])→PutPost A w w' t l e):=hid (fun e w' h=>by unfold PutPost;rw[if_pos hk];exact h)
  rw[hk] at HK
  have eT:=fun o=>(HED.out (w.alloc o) (World.grownBy_alloc _ _ _)).1
  clear hk hkn
  go_enter Tryz.func102,Tryz.ntmps102
  go_wp2_with (go_at_call 134;refine (HK.out _).mono ?_;rintro e w2 ⟨rfl,rfl⟩)
  go_quiet (fail)
  go_wp2
  go_ret2
  exact ⟨HX.out _ _ rfl,grown_drewN (World.grownBy_alloc _ _ _) _⟩
 |true =>
  have hkt:=hkn hk
  by_cases hbig:65530<n
  ·have HX:Hid (∀ e w',e=Ending.returned (.tuple #[.slice none 0 0,errV A 3])→PutPost A w w' t l e):=hid (fun e w' h=>by unfold PutPost;rw[if_neg (by rw[hk];simp),if_pos (by rw[←HN.out];exact hbig)];exact h)
   rw[hk] at HK
   have eL:=fun o=>(HED.out (w.alloc o) (World.grownBy_alloc _ _ _)).2
   have d1:decide ((65530:Int)<(n:Int))=true:=decide_eq_true (by omega)
   clear hk hkn hbig
   go_enter Tryz.func102,Tryz.ntmps102
   go_wp2_with (go_at_call 134;refine (HK.out _).mono ?_;rintro e w2 ⟨rfl,rfl⟩)
   go_quiet (fail)
   go_wp2
   go_ret2
   exact ⟨HX.out _ _ rfl,grown_drewN (World.grownBy_alloc _ _ _) _⟩
  ·obtain ⟨k,rfl⟩:∃ k:Nat,t=k:=⟨t.toNat,by omega⟩
   have HX:Hid (∀ e w',(∃ u,e=Ending.returned (.tuple #[u,.nilIface])∧FrW w w' u (Tl.elem k l))→PutPost A w w' (k:Int) l e):=hid (fun e w' h=>by unfold PutPost;rw[if_neg (by rw[hk];simp),if_neg (by rw[←HN.out];exact hbig),Int.toNat_natCast];exact h)
   rw[hk] at HK
   have hk256:k<256:=by omega
   have hsz:Tl.size (n:Int)=2+Tl.more n+n:=by rw[Tl.size,if_pos (by omega),Int.toNat_natCast]
   have hm4:=Tl.more_le n
   have HS:=hid (size_anyT (n:Int))
   have hszb:Hid (Tl.size (n:Int)≤70000):=hid (by omega)
   have HLn:Hid ((Tl.lenB n).length≤5):=hid (by rw[Tl.lenB_len];omega)
   have HEl:Hid (Tl.elem k l=[k]++Tl.lenB n++l):=hid (by rw[Tl.elem,HN.out];rfl)
   have HAL:=hid (fun v base xs w a b c=>appLen_any v n base xs w a b c (by omega))
   generalize Tl.size (n:Int)=sz at *
   generalize Tl.lenB n=ln at *
   have d1:decide ((65530:Int)<(n:Int))=false:=decide_eq_false (by omega)
   have hn':n≤65530:=by omega
   obtain ⟨iT,i1,i2,i3,i4⟩:=info_parts (P:=Tryz.prog) (e:=5) (z:=.int .u8 0) (size:=1) (bytes:=1) (by kernel_rfl)
   have Hi1:=hid i1
   have Hi2:=hid i2
   have Hi3:=hid i3
   have Hi4:=hid i4
   have Hn':=hid hn'
   clear i1 i2 i3 i4 hk hkn hkt hbig hsz hm4 hn' hl
   obtain ⟨w1,hw1⟩:∃ w1,w1=w.alloc (.cells #[.int .i64 k,.slice va n vc] 148):=⟨_,rfl⟩
   have G1:Hid (w.grownBy w1 none):=hid (by rw[hw1];exact World.grownBy_alloc _ _ _)
   have hb1:w1.heap[w.heap.size]?=some (.cells #[.int .i64 k,.slice va n vc] 148 (0,0)):=by rw[hw1];exact alloc_at _ _
   obtain ⟨g,hg⟩:∃ g,g=w.heap.size:=⟨_,rfl⟩
   rw[←hg] at hb1
   have HBx:Hid (∀ W,w1.grownBy W none→W.cell? ⟨g,0,none⟩=some (.int .i64 (k:Int))∧W.cell? ⟨g,1,none⟩=some (.slice va n vc)):=hid (fun W hW=>by
    have hbW:=(hW.block _ (blk_lt hb1) (by simp)).trans hb1
    exact ⟨cell_blk hbW 0 rfl,cell_blk hbW 1 rfl⟩)
   have HW1:=hid hw1
   have HG:=hid hg
   have s0:=(HBx.out w1 (grown_refl _ _)).1
   have s1:=(HBx.out w1 (grown_refl _ _)).2
   have HSz:=hid (show sz≤70000 from hszb.out)
   clear hw1 hg hb1
   go_enter Tryz.func102,Tryz.ntmps102
   go_wp2_with (first
    |(go_at_call 134;rw[←HW1.out,←HG.out];refine (HK.out _).mono ?_;rintro e w2 ⟨rfl,hw2⟩;have hw2':=hw2.symm;subst hw2';clear hw2)
    |(go_at_call 135;refine (HS.out _).mono ?_;rintro e w2 ⟨rfl,hw2⟩;have hw2':=hw2.symm;subst hw2';clear hw2)
    |(refine wpList_make_own _ (by rfl) (.const (.int .i64 0)) (.tmp 18) 27 (by rfl) w1.heap.size 5 iT (.int .u8 0) 1 Tryz.underlying27 Hi1.out Hi2.out Hi3.out .i64 .i64 _ sz (by rfl) (by rfl) (by go_num) (by rw[Hi4.out];have:=HSz.out;omega) (by have:=HSz.out;unfold maxLen;omega) (Nat.le_refl _) ?_;intro w3 ho3 hg3;have F3:=hid (FrW.mk (l:=[]) hg3 ho3);have s30:=(HBx.out w3 hg3).1;have s31:=(HBx.out w3 hg3).2;clear ho3 hg3)
    |(at_builtin;refine wpList_app1 (by rfl) (.tmp 20) (.tmp 24) 27 (by rfl) w1.heap.size 5 (.int .u8 0) 1 Tryz.underlying27 (by kernel_rfl) rfl (by decide) _ 0 [] (by rfl) (F3.out.own.alloc _) ⟨_,0,none⟩ _ (by rfl) (cell_blk (alloc_at _ _) 0 rfl) rfl (by omega) (by have:=F3.out.le;rw[alloc_size];omega) ?_;intro v4 w4 ho4 hg4;have F4:=hid ((F3.out.alloc _).step (l':=[k]) ho4 hg4 rfl);have s40:=(HBx.out w4 F4.out.grown).1;have s41:=(HBx.out w4 F4.out.grown).2;clear ho4 hg4)
    |(go_at_call 136;refine (HAL.out v4 w1.heap.size [k] w4 F4.out.own F4.out.le (by simp)).mono ?_;rintro e w5 ⟨v5,rfl,hR⟩;have F5:=hid (F4.out.step (l':=[k]++ln) hR.own hR.grown rfl);have s50:=(HBx.out w5 F5.out.grown).1;have s51:=(HBx.out w5 F5.out.grown).2;clear hR)
    |(at_builtin;refine wpList_appB (by rfl) (.tmp 31) (.tmp 33) 27 (by rfl) w1.heap.size 5 (.int .u8 0) 1 Tryz.underlying27 (by kernel_rfl) rfl (by decide) _ _ _ (by rfl) F5.out.own _ l (by rfl) (HB.out.grown (grown_trans G1.out F5.out.grown)) H0.out (by rw[List.length_append,←HN.out];have:=HLn.out;have:=Hn'.out;simp;omega) F5.out.le ?_;intro v6 w6 ho6 hg6;have F6:=hid (F5.out.step (l':=[k]++ln++l) ho6 hg6 (cellsL_append _ _).symm);clear ho6 hg6))
   go_ret2
   exact ⟨HX.out _ _ ⟨_,rfl,by rw[HEl.out];exact F6.out.of G1.out⟩,grown_trans G1.out F6.out.grown⟩
end Go.Proofs.YtjjbkpjjmbfdhaaGreatDoor
