import Derived.Test.YtijkaknggdaajaaGreatDoorZr14
import Derived.Test.YtijkaknggdaajaaGreatDoorZr15
import Derived.Test.YtijkaknggdaajaaGreatDoorZr17
import Derived.Test.YtijkaknggdaajaaGreatDoorZr21
import Derived.Test.YtijkaknggdaajaaGreatDoorZr22
import Derived.Test.YtijkaknggdaajaaGreatDoorZr33
import Derived.Deep.Quiet
import Derived.Deep.QuietTactic
import Derived.BigQuiet
import Derived.StillTail
import Derived.KernelRfl
import Derived.Deep.MidRow
import Derived.WalkKit
set_option linter.unusedVariables false
set_option linter.unusedSimpArgs false
set_option maxRecDepth 100000
set_option maxHeartbeats 2000000
namespace Go.Proofs.YtijkaknggdaajaaGreatDoor
open Lib (hid)
open Go.RowKit
theorem right_in {l:List Int} {x y:Int} (h2:2≤l.length) (h16:l.length≤16) (hx:l.getD 0 0=x) (hy:l.getD 1 0=y) (hall:∀ j,j<l.length→0≤l.getD j 0∧l.getD j 0≤2147483647) :
  Od.right l=((decide (x<2)&&decide (y<40))||decide (x=2)):=by
 have h0:=(hall 0 (by omega)).1
 rw[hx] at h0
 rw[Bool.eq_iff_iff,Od.right_iff,hx,hy]
 simp only[Bool.or_eq_true,Bool.and_eq_true,decide_eq_true_eq]
 constructor
 ·rintro ⟨⟨_,_,_,h3,h4⟩,_⟩;omega
 ·intro h
  refine ⟨⟨h2,h16,h0,by omega,by omega⟩,fun n hn=>?_⟩
  obtain ⟨j,hj,rfl⟩:=List.getElem_of_mem hn
  have:=hall j hj
  rw[List.getD_eq_getElem?_getD,List.getElem?_eq_getElem hj] at this
  exact this
theorem right_out {l:List Int} (j:Nat) (hj:j<l.length) (h:¬ (0≤l.getD j 0∧l.getD j 0≤2147483647)):Od.right l=false:=by
 rw[←Bool.not_eq_true];intro e
 refine h (((Od.right_iff l).1 e).2 _ ?_)
 rw[List.getD_eq_getElem?_getD,List.getElem?_eq_getElem hj]
 exact List.getElem_mem hj
theorem right_len {l:List Int} (h:l.length<2∨16<l.length):Od.right l=false:=by
 rw[←Bool.not_eq_true];intro e
 have:=((Od.right_iff l).1 e).1
 omega
theorem isId_any (v:Value) (l:List Int) (w:World) (hI:Ints w v l) (hl:l.length≤1099511620000) :
  Calls Tryz.prog 163 #[v] w fun e w'=>e=.returned (.bool (Od.right l))∧w'=w:=by
 obtain ⟨a1,g1,o1,c1,rfl,k1,k2,k3⟩:=hI
 by_cases hlen:l.length<2∨16<l.length
 ·rw[right_len hlen]
  clear k2 k3
  generalize l.length=n at *
  rcases hlen with h|h
  ·go_enter Tryz.func163,Tryz.ntmps163
   go_wp2
   go_ret
   exact ⟨rfl,rfl⟩
  ·have h':¬ n<2:=by omega
   go_enter Tryz.func163,Tryz.ntmps163
   go_wp2
   go_ret
   exact ⟨rfl,rfl⟩
 ·have h2:¬ l.length<2:=fun h=>hlen (.inl h)
  have h16:¬ 16<l.length:=fun h=>hlen (.inr h)
  clear hlen hl
  obtain ⟨rfl,hlt⟩:=k2 (by omega)
  have K3:=hid k3
  have HO:=hid (fun j (hj:j<l.length) h=>right_out (l:=l) j hj h)
  have HR:=hid (right_in (x:=l.getD 0 0) (y:=l.getD 1 0) (l:=l) (by omega) (by omega) rfl rfl)
  obtain ⟨n,hn⟩:∃ n,n=l.length:=⟨_,rfl⟩
  rw[←hn] at K3 HO HR h2 h16 ⊢
  clear k1 k2 k3 hn hlt
  generalize Od.right l=R at *
  go_enter Tryz.func163,Tryz.ntmps163
  go_wp2
  go_loopw [15] (fun i wr=>∃ k:Nat,k≤n∧i=.int .i64 k∧wr=w∧∀ j,j<k→0≤l.getD j 0∧l.getD j 0≤2147483647) (fun i _=>n-(intOf i).toNat)
  case atStart=>exact ⟨0,Nat.zero_le _,rfl,rfl,fun j hj=>absurd hj (Nat.not_lt_zero _)⟩
  case round =>
   obtain ⟨k,hk,rfl,rfl,hall⟩:=hrel
   have HAll:=hid hall
   clear hall
   by_cases hlt:k<n
   ·have f1:=K3.out k hlt
    by_cases hx:0≤l.getD k 0∧l.getD k 0≤2147483647
    ·have HX:=hid hx
     obtain ⟨x1,x2⟩:=hx
     generalize hxx:l.getD k 0=x at *
     have HXX:=hid hxx
     have y1:¬ x<0:=by omega
     have y2:¬ 2147483647<x:=by omega
     clear hxx
     go_wp2
     go_roundw
     case rel=>exact ⟨k+1,by omega,by go_num,trivial,fun j hj=>(by
      rcases Nat.lt_or_ge j k with h|h
      ·exact HAll.out j h
      ·obtain rfl:j=k:=by omega
       rw[HXX.out];exact HX.out)⟩
     case measure=>simp[intOf];omega
    ·have hR:=HO.out k hlt hx
     have hR2:=hid hR
     have hxo:l.getD k 0<0∨(¬ l.getD k 0<0∧2147483647<l.getD k 0):=by omega
     generalize l.getD k 0=x at *
     clear hx hR
     rcases hxo with h|⟨h,h'⟩
     ·go_wp2
      go_ret
      exact ⟨by rw[hR2.out];rfl,rfl⟩
     ·go_wp2
      go_ret
      exact ⟨by rw[hR2.out];rfl,rfl⟩
   ·obtain rfl:k=n:=by omega
    have hR:=HR.out HAll.out
    have f0:=K3.out 0 (by omega)
    have f1:=K3.out 1 (by omega)
    rw[Nat.add_zero] at f0
    generalize l.getD 0 0=x at *
    generalize l.getD 1 0=y at *
    have hR2:=hid hR
    clear hR
    by_cases hx:x<2
    ·by_cases hy:y<40
     ·go_wp2
      go_ret
      exact ⟨by rw[hR2.out];simp[hx,hy],rfl⟩
     ·have hx2:x≠2:=by omega
      have hb:(x==2)=false:=by simp[hx2]
      go_wp2
      go_ret
      exact ⟨by rw[hR2.out];simp[hx,hy,hx2],rfl⟩
    ·by_cases hx2:x=2
     ·subst hx2
      go_wp2
      go_ret
      exact ⟨by rw[hR2.out];simp,rfl⟩
     ·have hb:(x==2)=false:=by simp[hx2]
      go_wp2
      go_ret
      exact ⟨by rw[hR2.out];simp[hx2];omega,rfl⟩
theorem join_text:∀ l:List Int,l≠[]→Lib.join (l.map fun n=>(strOf (Wh.dig n.toNat)).data.toList) [46]=(Od.text l).map UInt8.ofNat
 |[n],_=>by
  rw[List.map_cons,List.map_nil,Lib.join_one]
  simp[Od.text,strOf]
 |x :: y :: r,_=>by
  have h:=join_text (y :: r) (by simp)
  have e:Od.text (x :: y :: r)=Wh.dig x.toNat++46 :: Od.text (y :: r):=rfl
  rw[List.map_cons,Lib.join_cons] at h
  rw[e,List.map_cons,List.map_cons,Lib.join_cons,List.map_append,List.map_cons,←h]
  simp[Lib.joinTail,strOf]
theorem join_strs (l:List Int) (hl:l≠[]) (h0:∀ n∈l,0≤n):(⟨(Lib.join ((l.map fun n=>strOf (serL n)).map (·.data.toList)) (⟨#[46]⟩:ByteArray).data.toList).toArray⟩:ByteArray)=strOf (Od.text l):=by
 have e:(l.map fun n=>strOf (serL n)).map (·.data.toList)=l.map fun n=>(strOf (Wh.dig n.toNat)).data.toList:=by
  rw[List.map_map]
  apply List.map_congr_left
  intro n hn
  have:=h0 n hn
  simp[serL,show ¬ n<0 by omega]
 rw[e,show (⟨#[46]⟩:ByteArray).data.toList=[46] from rfl,join_text l hl]
 rfl
theorem makeS (L:Nat) (hL:L≤100) (W:World):(Instr.makeSlice 141 (.int .i64 (L:Int)) (.int .i64 (L:Int))).run Tryz.prog W=.ok (.slice (some ⟨W.heap.size,0,none⟩) L L) (W.alloc (.cells (cellsS (List.replicate L [])).toArray 9)):=by
 obtain ⟨iT,i1,i2,i3,i4⟩:=info_parts (P:=Tryz.prog) (e:=9) (z:=.string ⟨#[]⟩) (size:=1) (bytes:=16) (by kernel_rfl)
 rw[run_makeSlice W 141 9 iT (.string ⟨#[]⟩) Tryz.underlying141 i1 i2 .i64 .i64 L L (by omega) (by omega) (by rw[i3];simp;omega) (by rw[i4];simp;omega) (by omega),i3]
 have e:madeCells (Value.string ⟨#[]⟩).cells (Int.toNat (L:Int)*1)=(cellsS (List.replicate L [])).toArray:=by
  simp[madeCells,cellsS,Value.cells]
  apply Array.ext
  ·simp
  ·intro i h1 h2
   simp[Nat.mod_one,strOf]
 rw[e]
 rfl
structure PutT (w w':World) (l:List Int) (k:Nat):Prop where
 grown:w.grownBy w' none
 blk:w'.heap[w.heap.size]?=some (.cells (cellsS ((l.take k).map serL++List.replicate (l.length-k) [])).toArray 9 (0,0))
theorem PutT.set {w w':World} {l:List Int} {k:Nat} (h:PutT w w' l k) (hk:k<l.length):PutT w (w'.setCell ⟨w.heap.size,k,none⟩ (.string (strOf (serL (l.getD k 0))))) l (k+1):=by
 refine ⟨grown_set h.grown (.inl (Nat.le_refl _)) _,?_⟩
 rw[heap_setCell_same w' w.heap.size k _ 9 _ h.blk]
 congr 2
 have e1:(l.take (k+1)).map serL=(l.take k).map serL++[serL (l.getD k 0)]:=by
  rw[List.take_add_one,List.map_append,List.getElem?_eq_getElem hk,List.getD_eq_getElem?_getD,List.getElem?_eq_getElem hk]
  simp
 obtain ⟨m,hm⟩:∃ m,l.length-k=m+1:=⟨l.length-k-1,by omega⟩
 rw[e1,hm,show l.length-(k+1)=m by omega,List.setIfInBounds_toArray]
 unfold cellsS
 rw[List.map_append,List.map_append,List.map_append,List.set_append_right _ _ (by simp;omega)]
 simp[List.replicate_succ,Nat.min_eq_left (Nat.le_of_lt hk)]
theorem PutT.zero {w w':World} {l:List Int} {k:Nat} (h:PutT w w' l k) (hk:k<l.length):w'.cell? ⟨w.heap.size,k,none⟩=some (.string (strOf [])) :=
 cell_blk h.blk k (by
  obtain ⟨m,hm⟩:∃ m,l.length-k=m+1:=⟨l.length-k-1,by omega⟩
  rw[hm]
  simp[cellsS,Nat.min_eq_left (Nat.le_of_lt hk)])
theorem PutT.more {w w1 w2:World} {l:List Int} {k:Nat} (h:PutT w w1 l k) (hg:w1.grownBy w2 none):PutT w w2 l k :=
 ⟨grown_trans h.grown hg,(hg.block _ (blk_lt h.blk) (by simp)).trans h.blk⟩
structure Tab10 (w:World):Prop where
 tab:Lib.TabIs Tryz.prog w "internal/strconv.uint64pow10" .u64 Lib.pow10Tab
theorem Tab10.grown {w w':World} (h:Tab10 w) (hg:w.grownBy w' none):Tab10 w':=⟨var_grown h.tab hg⟩
theorem itoa_any_t (u:Nat) (hu:u<9223372036854775808) (w:World) (hF:Tab10 w) :
  Calls Tryz.prog 194 #[.int .i64 u] w fun e w'=>e=.returned (.string (strOf (Wh.dig u)))∧w.grownBy w' none :=
 (Any.strconv_Itoa Tryz.laysM171 u (by omega) (by omega) w hF.tab).mono (by
  rintro e w' ⟨rfl,k,os,rfl⟩
  exact ⟨by rw[itoa_text u (by omega)],grown_grow w k os⟩)
theorem serial_any_t (n:Int) (h2:n<9223372036854775808) (w:World) (hF:Tab10 w) :
  Calls Tryz.prog 175 #[.int .i64 n] w fun e w'=>e=.returned (.string (strOf (serL n)))∧w.grownBy w' none:=by
 by_cases hn:n<0
 ·have HX:Hid (strOf (serL n)=⟨#[]⟩):=hid (by rw[serL,if_pos hn];rfl)
  go_enter Tryz.func175,Tryz.ntmps175
  go_wp2
  go_ret
  rw[HX.out]
  exact ⟨rfl,grown_refl _ _⟩
 ·obtain ⟨u,rfl⟩:∃ u:Nat,n=u:=⟨n.toNat,by omega⟩
  have HX:Hid (strOf (serL (u:Int))=strOf (Wh.dig u)):=hid (by rw[serL,if_neg hn,Int.toNat_natCast])
  have HI:=hid (itoa_any_t u (by omega) w hF)
  rw[HX.out]
  generalize strOf (Wh.dig u)=t at *
  clear hF
  go_enter Tryz.func175,Tryz.ntmps175
  go_wp2_with (go_at_call 194;refine HI.out.mono ?_;rintro e w1 ⟨rfl,hg1⟩;have HG1:=hid hg1;clear hg1)
  go_ret
  exact ⟨rfl,HG1.out⟩
theorem tx_spec_t (A:Nat→Addr) (w0:World) (hF0:Tab10 w0) (hE0:RFErrs w0 A):TxSpec A w0:=by
 intro v l w hw hI hl
 have HId:=hid (isId_any v l w hI (by omega))
 by_cases hr:Od.right l=true
 ·rw[if_pos hr]
  obtain ⟨⟨hl2,hl16,_⟩,hall⟩:=(Od.right_iff l).1 hr
  have hall2:∀ j,j<l.length→0≤l.getD j 0∧l.getD j 0≤2147483647:=fun j hj=>by
   have e:l.getD j 0=l[j]:=by rw[List.getD_eq_getElem?_getD,List.getElem?_eq_getElem hj];rfl
   rw[e];exact hall l[j] (List.getElem_mem hj)
  obtain ⟨a,g,o,c,rfl,hc,ha,hcell⟩:=hI
  obtain ⟨rfl,hg⟩:=ha (by omega)
  rw[hr] at HId
  have HS:=hid (fun (z:Int) (hz:z≤2147483647) W hW=>serial_any_t z (by omega) W (hF0.grown (grown_trans hw hW)))
  have HCl:Hid (∀ W,w.grownBy W none→∀ j,j<l.length→W.cell? ⟨g,o+j,none⟩=some (.int .i64 (l.getD j 0))):=hid (fun W hW j hj=>by
   have:=hcell j hj
   rw[←World.cell?_of_block (hW.block g hg (by simp))] at this
   exact this)
  have HJ:Hid (∀ W,PutT w W l l.length→Calls Tryz.prog 176 #[.slice (some ⟨w.heap.size,0,none⟩) l.length l.length,.string ⟨#[46]⟩] W fun e w'=>e=.returned (.string (strOf (Od.text l)))∧W.grownBy w' none):=hid (fun W hW=>by
   have hb:=hW.blk
   rw[Nat.sub_self,List.replicate_zero,List.append_nil,List.take_length] at hb
   have hj:=join_strs l (by intro e;rw[e] at hl2;simp at hl2) (fun n hn=>(hall n hn).1)
   have hlen:(Lib.join ((l.map fun n=>strOf (serL n)).map (·.data.toList)) (⟨#[46]⟩:ByteArray).data.toList).length=(strOf (Od.text l)).size:=by rw[←hj];rfl
   have hT:=Od.text_len l
   have:=Any.strings_Join Tryz.lays156 Tryz.Builder_Extra_156 w.heap.size 0 l.length (l.map fun n=>strOf (serL n)) ⟨#[46]⟩ W
    (fun j x hx=>by
     rw[Nat.zero_add]
     refine cell_blk hb j ?_
     rw[List.getElem?_map] at hx
     simp only[cellsS,List.map_map,List.getElem?_toArray,List.getElem?_map]
     cases hq:l[j]? with
     |none=>rw[hq] at hx;cases hx
     |some z=>rw[hq] at hx;simp at hx ⊢;exact hx)
    (blk_lt hb) (by rw[List.length_map];omega) (by rw[List.length_map];omega) (by rw[hlen,strOf_size];omega)
   rw[hj,List.length_map] at this
   exact this.mono (fun e w' h=>⟨h.1,grown_of_below h.2⟩))
  have HP0:Hid (PutT w (w.alloc (.cells (cellsS (List.replicate l.length [])).toArray 9)) l 0):=hid ⟨World.grownBy_alloc _ _ _,by rw[alloc_at];simp⟩
  have HSet:=hid (fun W k (h:PutT w W l k) hk=>h.set hk)
  have HZer:=hid (fun W k (h:PutT w W l k) hk=>h.zero hk)
  have HAl:=hid hall2
  have hmk:=makeS l.length (by omega) w
  obtain ⟨n,hn⟩:∃ n,n=l.length:=⟨_,rfl⟩
  rw[←hn] at HId HJ HP0 HCl HSet HZer HAl hmk hl16 hl2 hc ⊢
  generalize strOf (Od.text l)=R at *
  clear hall hall2 hcell ha hF0 hE0 hw hl hr hn
  go_enter Tryz.func156,Tryz.ntmps156
  go_wp2_with (go_at_call 163;refine HId.out.mono ?_;rintro e w1 ⟨rfl,hw1⟩;have hw2:=hw1.symm;subst hw2;clear hw1)
  clear hmk
  go_loopw [16] (fun i wr=>∃ k:Nat,k≤n∧i=.int .i64 k∧PutT w wr l k) (fun i _=>n-(intOf i).toNat)
  case atStart=>exact ⟨0,by omega,rfl,HP0.out⟩
  case round =>
   obtain ⟨k,hk,rfl,hP⟩:=hrel
   have HP:=hid hP
   clear hP
   by_cases hkn:k<n
   ·have hck:=HCl.out _ HP.out.grown k hkn
    have HZ:=hid (HAl.out k hkn)
    have HSk:=hid (fun W h=>HSet.out W k h hkn)
    generalize l.getD k 0=z at *
    go_wp2_with (go_at_call 175;refine (HS.out z HZ.out.2 _ HP.out.grown).mono ?_;rintro e w3 ⟨rfl,hg3⟩;have HP3:=hid (HP.out.more hg3);have HB3:=hid (HP.out.more hg3).blk;have x1:=free_blk HB3.out k;have x0:=HZer.out _ k HP3.out hkn;clear hg3)
    go_roundw
    case rel=>exact ⟨k+1,by omega,by go_num,HSk.out _ HP3.out⟩
    case measure=>simp[intOf];omega
   ·obtain rfl:k=n:=by omega
    go_wp2_with (go_at_call 176;refine (HJ.out _ HP.out).mono ?_;rintro e w3 ⟨rfl,hg3⟩;have HG3:=hid (grown_trans HP.out.grown hg3);clear hg3)
    go_ret2
    exact ⟨HG3.out,rfl⟩
 ·rw[if_neg hr]
  rw[Bool.not_eq_true] at hr
  rw[hr] at HId
  have eR:=(hE0.grown hw).range
  clear hE0 hF0 hI hr
  go_enter Tryz.func156,Tryz.ntmps156
  go_wp2_with (go_at_call 163;refine HId.out.mono ?_;rintro e w1 ⟨rfl,hw1⟩;have hw2:=hw1.symm;subst hw2;clear hw1)
  go_quiet (fail)
  go_wp2
  go_ret2
  exact ⟨grown_drewN (grown_refl _ _) _,rfl⟩
theorem not128:∀ q:Fin 256,bits BinOp.andNot IntKind.u8 ((q.val:Nat):Int) 128=((q.val%128:Nat):Int):=by decide +kernel
attribute [local go_sem] Oper.semAt_some
theorem isLast_any (x:Nat) (hx:x<256) (w:World):Calls Tryz.prog 193 #[.int .u8 (x:Int)] w fun e w'=>e=.returned (.bool (decide (x<128)))∧w'=w:=by
 have HX:Hid (decide ((x:Int)<128)=decide (x<128)):=hid (by rw[Bool.eq_iff_iff,decide_eq_true_iff,decide_eq_true_iff];omega)
 go_enter Tryz.func193,Tryz.ntmps193
 go_wp2
 go_ret
 exact ⟨by rw[←HX.out];rfl,rfl⟩
theorem idxFunc_any (v:Value) (b:List Nat) (k:Nat) (w:World) (hB:Bytes w v b) (hk:k<b.length) (hlo:∀ j,j<k→¬ b.getD j 0<128) (hhi:b.getD k 0<128) (hl:b.length≤1099511620000) :
  Calls Tryz.prog 192 #[v,.func (.func 193) #[] #[]] w fun e w'=>e=.returned (.int .i64 k)∧w'=w:=by
 obtain ⟨hb256,a,sb,so,c,rfl,hc,ha,hcell⟩:=hB
 obtain ⟨rfl,hsb⟩:=ha (by omega)
 have HC:=hid hcell
 have HLo:=hid hlo
 have HL:=hid (fun x hx W=>isLast_any x hx W)
 have HB:Hid (∀ j,b.getD j 0<256):=hid (fun j=>by
  rw[List.getD_eq_getElem?_getD]
  cases hq:b[j]? with
  |none=>simp
  |some z=>exact hb256 z (List.mem_of_getElem? hq))
 obtain ⟨n,hn⟩:∃ n,n=b.length:=⟨_,rfl⟩
 rw[←hn] at HC hk hl hc ⊢
 clear hcell hlo hn ha hb256
 go_enter Tryz.func192,Tryz.ntmps192
 go_wp2
 go_loopw [8] (fun i wr=>∃ j:Nat,j≤k∧i=.int .i64 j∧wr=w) (fun i _=>n-(intOf i).toNat)
 case atStart=>exact ⟨0,by omega,rfl,rfl⟩
 case round =>
  obtain ⟨j,hj,rfl,rfl⟩:=hrel
  have f1:=HC.out j (by omega)
  have hx:=HB.out j
  by_cases hjk:j=k
  ·subst hjk
   generalize b.getD j 0=x at *
   have HLx:=hid (HL.out x hx)
   have hd:decide (x<128)=true:=decide_eq_true hhi
   rw[hd] at HLx
   go_wp2_with (go_at_call 193;refine (HLx.out _).mono ?_;rintro e w1 ⟨rfl,rfl⟩)
   go_ret
   exact ⟨rfl,rfl⟩
  ·have hlo:=HLo.out j (by omega)
   generalize b.getD j 0=x at *
   have HLx:=hid (HL.out x hx)
   have hd:decide (x<128)=false:=decide_eq_false hlo
   rw[hd] at HLx
   go_wp2_with (go_at_call 193;refine (HLx.out _).mono ?_;rintro e w1 ⟨rfl,rfl⟩)
   go_roundw
   case rel=>exact ⟨j+1,by omega,by go_num,trivial⟩
   case measure=>simp[intOf];omega
theorem or_low7 (s y:Nat) (hs:s≤2147483800) (hy:y<128):bits .or .i64 ((s:Int)*128) (y:Int)=((s*128+y:Nat):Int):=by
 have hx:s*128 ||| y=s*128+y:=by
  have:=Nat.two_pow_add_eq_or_of_lt (i:=7) (show y<2 ^ 7 by omega) s
  rw[Nat.mul_comm]
  exact this.symm
 have e1:(BitVec.ofInt 64 (((s*128:Nat):Int))).toNat=s*128:=by
  rw[BitVec.ofInt_natCast,BitVec.toNat_ofNat];exact Nat.mod_eq_of_lt (by omega)
 have e2:(BitVec.ofInt 64 (y:Int)).toNat=y:=by
  rw[BitVec.ofInt_natCast,BitVec.toNat_ofNat];exact Nat.mod_eq_of_lt (by omega)
 have e3:(s:Int)*128=((s*128:Nat):Int):=by omega
 rw[e3]
 show IntKind.i64.wrap ((BitVec.ofInt 64 (((s*128:Nat):Int)) ||| BitVec.ofInt 64 (y:Int)).toNat:Int)=_
 rw[BitVec.toNat_or,e1,e2,hx]
 simp only[IntKind.wrap,IntKind.bits,IntKind.signed]
 simp
 omega
theorem not128x (x:Nat) (hx:x<256):bits BinOp.andNot IntKind.u8 (x:Int) 128=((x%128:Nat):Int):=not128 ⟨x,hx⟩
theorem svalF_le:∀ (m:List Nat) (a:Nat),a≤m.foldl (fun a c=>a*128+c%128) a
 |[],a=>Nat.le_refl _
 |c :: r,a=>by
  rw[List.foldl_cons]
  exact Nat.le_trans (by omega) (svalF_le r _)
theorem sval_take (l:List Nat) (k:Nat):Od.sval (l.take k)≤Od.sval l:=by
 conv=>rhs;rw[←List.take_append_drop k l]
 rw[Od.sval,Od.sval,List.foldl_append]
 exact svalF_le _ _
theorem sval_step (l:List Nat) (k:Nat) (hk:k<l.length):Od.sval (l.take (k+1))=Od.sval (l.take k)*128+l.getD k 0%128:=by
 rw[List.take_add_one,List.getElem?_eq_getElem hk,List.getD_eq_getElem?_getD,List.getElem?_eq_getElem hk]
 exact Od.sval_snoc _ _
theorem idxNone_any (v:Value) (b:List Nat) (w:World) (hB:Bytes w v b) (hlo:∀ j,j<b.length→¬ b.getD j 0<128) (hl:b.length≤1099511620000) :
  Calls Tryz.prog 192 #[v,.func (.func 193) #[] #[]] w fun e w'=>e=.returned (.int .i64 (-1))∧w'=w:=by
 obtain ⟨hb256,a,sb,so,c,rfl,hc,ha,hcell⟩:=hB
 have HC:=hid hcell
 have HA:Hid (0<b.length→a=some ⟨sb,so,none⟩):=hid (fun h=>(ha h).1)
 have HLo:=hid hlo
 have HL:=hid (fun x hx W=>isLast_any x hx W)
 have HB:Hid (∀ j,b.getD j 0<256):=hid (fun j=>by
  rw[List.getD_eq_getElem?_getD]
  cases hq:b[j]? with
  |none=>simp
  |some z=>exact hb256 z (List.mem_of_getElem? hq))
 obtain ⟨n,hn⟩:∃ n,n=b.length:=⟨_,rfl⟩
 rw[←hn] at HC hl hc HLo HA ⊢
 clear hcell hlo hn ha hb256
 go_enter Tryz.func192,Tryz.ntmps192
 go_wp2
 go_loopw [8] (fun i wr=>∃ j:Nat,j≤n∧i=.int .i64 j∧wr=w) (fun i _=>n-(intOf i).toNat)
 case atStart=>exact ⟨0,by omega,rfl,rfl⟩
 case round =>
  obtain ⟨j,hj,rfl,rfl⟩:=hrel
  by_cases hjk:j<n
  ·have hlo:=HLo.out j hjk
   have f1:=HC.out j hjk
   have hx:=HB.out j
   have hae:=HA.out (by omega)
   subst hae
   generalize b.getD j 0=x at *
   have HLx:=hid (HL.out x hx)
   have hd:decide (x<128)=false:=decide_eq_false hlo
   rw[hd] at HLx
   go_wp2_with (go_at_call 193;refine (HLx.out _).mono ?_;rintro e w1 ⟨rfl,rfl⟩)
   go_roundw
   case rel=>exact ⟨j+1,by omega,by go_num,trivial⟩
   case measure=>simp[intOf];omega
  ·obtain rfl:j=n:=by omega
   go_wp2
   go_ret
   exact ⟨rfl,rfl⟩
theorem firstSize_any (v:Value) (b:List Nat) (w:World) (hB:Bytes w v b) (h0:0<b.length) (hl:b.length≤100000) :
  Calls Tryz.prog 173 #[v] w fun e w'=>e=.returned (.int .i64 (Od.fst b:Nat))∧w'=w:=by
 obtain ⟨h1,h2,h3,h4⟩:=Od.fst_facts h0
 obtain ⟨a,c,hv⟩:∃ a c,v=.slice a b.length c:=by
  obtain ⟨_,a,_,_,c,rfl,_⟩:=hB
  exact ⟨a,c,rfl⟩
 subst hv
 rcases h4 with ⟨h4,_⟩|⟨_,_,h5,h6⟩
 ·have HI:=hid (idxFunc_any _ b (Od.fst b-1) w hB (by omega) (fun j hj=>h3 j (by omega)) h4 (by omega))
  obtain ⟨k,hk⟩:∃ k,Od.fst b=k+1:=⟨Od.fst b-1,by omega⟩
  rw[hk] at HI ⊢
  rw[Nat.add_sub_cancel] at HI
  obtain ⟨n,hn⟩:∃ n,n=b.length:=⟨_,rfl⟩
  rw[←hn] at HI hl ⊢
  have hkl:k<100000:=by omega
  clear h1 h2 h3 h4 hk hB hn
  go_enter Tryz.func173,Tryz.ntmps173
  go_wp2_with (go_at_call 192;refine HI.out.mono ?_;rintro e w1 ⟨rfl,rfl⟩)
  go_ret
  exact ⟨by go_num,rfl⟩
 ·have HI:=hid (idxNone_any _ b w hB h6 (by omega))
  rw[h5]
  obtain ⟨n,hn⟩:∃ n,n=b.length:=⟨_,rfl⟩
  rw[←hn] at HI ⊢
  clear h1 h2 h3 h5 h6 hB hn
  go_enter Tryz.func173,Tryz.ntmps173
  go_wp2_with (go_at_call 192;refine HI.out.mono ?_;rintro e w1 ⟨rfl,rfl⟩)
  go_ret
  exact ⟨rfl,rfl⟩
structure SFErrs (w:World) (A:Nat→Addr):Prop where
 rf:RFErrs w A
 short:w.cell? ⟨3,0,none⟩=some (errV A 2)
theorem SFErrs.grown {w w':World} {A:Nat→Addr} (h:SFErrs w A) (hg:w.grownBy w' none):SFErrs w' A :=
 ⟨h.rf.grown hg,(World.cell?_of_block (hg.block _ (World.block_lt_of_cell? w _ h.short) (by simp))).trans h.short⟩
theorem AllErrs.sf {w:World} {A:Nat→Addr} (h:AllErrs w A):SFErrs w A:=⟨h.rf,err_short h⟩
theorem oNumBytes_any (A:Nat→Addr) (v:Value) (b:List Nat) (most:Nat) (w:World) (hE:SFErrs w A) (hB:Bytes w v b) (h0:0<b.length) (hl:b.length≤100000) (hm2:most≤2147483800) :
  Calls Tryz.prog 174 #[v,.int .i64 (most:Int)] w fun e w'=>e=.returned (.tuple (encN A (Od.numB most b)))∧w.grownBy w' none:=by
 obtain ⟨hb256,a,sb,so,c,rfl,hc,ha,hcell⟩:=hB
 obtain ⟨rfl,hsb⟩:=ha h0
 have HC:=hid hcell
 have HB:Hid (∀ j,b.getD j 0<256):=hid (fun j=>by
  rw[List.getD_eq_getElem?_getD]
  cases hq:b[j]? with
  |none=>simp
  |some z=>exact hb256 z (List.mem_of_getElem? hq))
 have HT:=hid (fun k=>sval_take b k)
 have HS:=hid (fun k hk=>sval_step b k hk)
 have HE:Hid (Od.sval (b.take b.length)=Od.sval b):=hid (by rw[List.take_length])
 have c0:=hcell 0 h0
 rw[Nat.add_zero] at c0
 obtain ⟨m,hm⟩:∃ m,b.length=m+1:=⟨b.length-1,by omega⟩
 have cl:=hcell m (by omega)
 have hb0:=HB.out 0
 have hbl:=HB.out m
 have HIl:=hid (isLast_any (b.getD m 0) hbl)
 have eS:=hE.short
 have eR:=hE.rf.range
 have eF:=hE.rf.form
 unfold Od.numB
 rw[hm,Nat.add_sub_cancel]
 rw[hm] at HC HS HE hc hl h0
 have HR0:Hid (Od.sval b=Od.sval b):=hid rfl
 by_cases hlast:b.getD m 0<128
 ·rw[if_neg (fun h=>h hlast)]
  rw[decide_eq_true hlast] at HIl
  by_cases h128:b.getD 0 0=128
  ·rw[if_pos h128]
   rw[h128] at c0
   have hx:((128:Nat):Int)=128:=rfl
   rw[hx] at c0
   generalize b.getD m 0=z at *
   clear HC HB HT HS HE hcell hE ha hb256 hm eS eR hlast h128 hx hb0
   unfold encN
   go_enter Tryz.func174,Tryz.ntmps174
   go_wp2_with (go_at_call 193;refine (HIl.out _).mono ?_;rintro e w1 ⟨rfl,hw1⟩;have hw2:=hw1.symm;subst hw2;clear hw1)
   go_quiet (fail)
   go_wp2
   go_ret2
   exact ⟨rfl,grown_drewN (grown_refl _ _) _⟩
  ·rw[if_neg h128]
   have hne:((b.getD 0 0:Nat):Int)≠128:=by omega
   have hbn:(((b.getD 0 0:Nat):Int)==128)=false:=beq_eq_false_iff_ne.2 hne
   have HRes:Hid (∃ R,R=Od.sval b):=hid ⟨_,rfl⟩
   obtain ⟨R,hR⟩:=HRes.out
   rw[←hR] at HT HE ⊢
   obtain ⟨X,hX⟩:∃ X,X=encN A (if most<R then Except.error 1 else .ok ((R:Nat):Int)):=⟨_,rfl⟩
   rw[←hX]
   have HX1:Hid (most<R→X=#[.int .i64 0,errV A 1]):=hid (fun h=>by rw[hX,if_pos h];rfl)
   have HX2:Hid (R≤most→X=#[.int .i64 (R:Nat),.nilIface]):=hid (fun h=>by rw[hX,if_neg (by omega)];rfl)
   generalize b.getD m 0=z at *
   generalize b.getD 0 0=b0 at *
   clear hcell hE ha hb256 eS eF hlast h128 hne hb0 hR hX HRes HR0
   obtain ⟨n,hn⟩:∃ n,n=m+1:=⟨_,rfl⟩
   have HIn:=hid hn
   go_enter Tryz.func174,Tryz.ntmps174
   go_wp2_with (go_at_call 193;refine (HIl.out _).mono ?_;rintro e w1 ⟨rfl,hw1⟩;have hw2:=hw1.symm;subst hw2;clear hw1)
   clear hbn c0 cl hn
   go_loopw [6,25] (fun x i wr=>∃ j:Nat,j≤m+1∧i=.int .i64 j∧x=.int .i64 (Od.sval (b.take j):Nat)∧Od.sval (b.take j)≤most∧wr=w) (fun _ i _=>m+1-(intOf i).toNat)
   case atStart=>exact ⟨0,by omega,rfl,rfl,by simp[Od.sval],rfl⟩
   case round =>
    obtain ⟨j,hj,rfl,rfl,hle,rfl⟩:=hrel
    by_cases hjn:j<m+1
    ·have f1:=HC.out j hjn
     have hx:=HB.out j
     have hst:=HS.out j hjn
     have ht1:=HT.out (j+1)
     generalize b.getD j 0=x at *
     generalize Od.sval (b.take j)=s0 at *
     generalize hs1:Od.sval (b.take (j+1))=s1 at *
     have HR1:Hid (Value.int IntKind.i64 ((s1:Nat):Int)=.int .i64 ((Od.sval (b.take (j+1)):Nat):Int)∧Od.sval (b.take (j+1))=s1):=hid ⟨by rw[hs1],hs1⟩
     clear hs1
     obtain ⟨y,hy⟩:∃ y,y=x%128:=⟨_,rfl⟩
     have hy128:y<128:=by rw[hy];exact Nat.mod_lt _ (by decide)
     have k1:=not128x x hx
     have k2:=or_low7 s0 y (by omega) hy128
     rw[←hy] at k1 hst
     rw[←hst] at k2
     have HS1:=hid hst
     clear hst hy
     by_cases hms:most<s1
     ·have k3:most<s1:=hms
      have HX3:=hid (HX1.out (by omega))
      clear ht1 hms
      go_wp2
      go_quiet (fail)
      go_wp2
      go_ret2
      exact ⟨by rw[HX3.out];rfl,grown_drewN (grown_refl _ _) _⟩
     ·have k3:¬ most<s1:=hms
      have HLe:Hid (s1≤most):=hid (by omega)
      clear ht1 hms
      go_wp2
      go_roundw
      case rel=>exact ⟨j+1,by omega,by go_num,HR1.out.1,by rw[HR1.out.2];exact HLe.out,trivial⟩
      case measure=>simp[intOf];omega
    ·obtain rfl:j=m+1:=by omega
     rw[HE.out] at hle ⊢
     have HX3:=hid (HX2.out hle)
     go_wp2
     go_ret2
     exact ⟨by rw[HX3.out];rfl,grown_refl _ _⟩
 ·rw[if_pos hlast]
  rw[decide_eq_false hlast] at HIl
  generalize b.getD m 0=z at *
  clear HC HB HT HS HE hcell hE ha hb256 hm eF eR hlast hb0 c0
  unfold encN
  go_enter Tryz.func174,Tryz.ntmps174
  go_wp2_with (go_at_call 193;refine (HIl.out _).mono ?_;rintro e w1 ⟨rfl,hw1⟩;have hw2:=hw1.symm;subst hw2;clear hw1)
  go_quiet (fail)
  go_wp2
  go_ret2
  exact ⟨rfl,grown_drewN (grown_refl _ _) _⟩
structure OnePiece (A:Nat→Addr) (w wr:World) (a:Option Addr) (n c most:Nat) (k:Nat) (q t:List Nat):Prop where
 len:n=k+1+t.length
 idx:Calls Tryz.prog 173 #[.slice a n c] wr fun e w'=>e=.returned (.int .i64 ((k+1:Nat):Int))∧w'=wr
 val:Calls Tryz.prog 174 #[.slice a (k+1) c,.int .i64 (most:Int)] wr fun e w'=>e=.returned (.tuple (encN A (Od.numB most q)))∧wr.grownBy w' none
 rest:Bytes w (.slice (subA a (k+1) c) (n-(k+1)) (c-(k+1))) t
theorem one_piece {A:Nat→Addr} {w wr:World} {a:Option Addr} {n c most x:Nat} {xs:List Nat} (hE:SFErrs w A) (hb:Bytes w (.slice a n c) (x :: xs)) (hw:w.grownBy wr none) (hn:n≤100000) (hm:most≤2147483800) :
  ∃ k q t,OnePiece A w wr a n c most k q t∧∀ f,Od.seqs (f+1) most (x :: xs)=Od.numB most q :: Od.seqs f 2147483647 t:=by
 obtain ⟨h1,h2,h3,h4⟩:=Od.fst_facts (l:=x :: xs) (by simp)
 obtain ⟨k,hk⟩:∃ k,Od.fst (x :: xs)=k+1:=⟨Od.fst (x :: xs)-1,by omega⟩
 have hbl:n=(x :: xs).length:=(hb.cap).1
 have hbr:=hb.grown hw
 refine ⟨k,(x :: xs).take (k+1),(x :: xs).drop (k+1),⟨?_,?_,?_,?_⟩,fun f=>by rw[Od.seqs,hk]⟩
 ·rw[List.length_drop];omega
 ·have:=firstSize_any _ _ wr hbr (by simp) (by omega)
  rw[hk] at this
  exact this
 ·exact oNumBytes_any A _ _ most wr (hE.grown hw) (Bytes.to hbr (k+1) (by omega)) (by rw[List.length_take];omega) (by rw[List.length_take];omega) hm
 ·exact Bytes.from hb (k+1) (by omega)
theorem num_facts (k n t:Nat) (hk:n=k+1+t) (hn:n≤100000):n-(k+1)=t∧((k+1:Nat):Int).toNat=k+1∧k+1≤n∧0<n∧t<n:=by
 refine ⟨by omega,by omega,by omega,by omega,by omega⟩
attribute [local go_sem] Oper.semAt_some
theorem ofBodyClo_seq (A:Nat→Addr) (v:Value) (b:List Nat) (src:List (Except Nat Int)) (bb:Nat) (w:World) (hE:SFErrs w A) (hbb:Boxed w bb 33 v) (hB:Bytes w v b) (hl:b.length≤100000) (hns:Od.seqs b.length 2147483727 b=src) :
  SeqP Tryz.prog 172 #[.pointer (some ⟨bb,0,none⟩)] (encN A) (fun _=>False) (fun r=>r<w.heap.size) 0 src w:=by
 intro l J Jx W hC hJ hJx hY h0
 have B1:Boxed W bb 33 v:=(hC.same bb hbb.lt).trans hbb
 have c1:=B1.cell
 have HB:=hid hB
 have HEr:=hid hE
 obtain ⟨_,va,_,_,vc,hv,hvc,_⟩:=hB
 subst hv
 have HY:=hid hY
 have HC:=hid hC
 have H0:=hid h0
 obtain ⟨n,hn⟩:∃ n,n=b.length:=⟨_,rfl⟩
 rw[←hn] at hvc c1 hl B1 hbb HB hns
 have HN0:=hid hns
 have HN:=hid hn
 have HJ0:=hid hJ
 clear hns hY hC h0 hn hbb B1 hE
 refine (callsIn_wide (n:=5)).1 (callsIn_of_wp Tryz.func172 rfl trivial ?_ rfl)
 simp only[Tryz.ntmps172,List.size_toArray,List.length_cons,List.length_nil,Nat.reduceAdd,Nat.reduceSub,Array.replicate_succ,Array.replicate_zero,List.push_toArray,List.append_toArray,List.nil_append,List.cons_append]
 gi_wp2
 gi_loopw [3,4] (fun m r wr=>∃ (most n' c' f:Nat) (a':Option Addr) (rest:List Nat) (pre:List (Except Nat Int)),m=.int .i64 most∧most≤2147483800∧r=.slice a' n' c'∧n'=rest.length∧n'≤n∧n'≤f∧Bytes w (.slice a' n' c') rest∧src=pre++Od.seqs f most rest∧KeepsP (fun r=>r<w.heap.size) w wr∧W.heap.size≤wr.heap.size∧J pre wr) (fun _ r _=>(match r with | .slice _ n _=>n|_=>0:Nat))
 case atStart=>exact ⟨2147483727,n,vc,n,va,b,[],rfl,by omega,rfl,HN.out,Nat.le_refl _,Nat.le_refl _,HB.out,HN0.out.symm,HC.out,Nat.le_refl _,H0.out⟩
 case round =>
  obtain ⟨most,n',c',f,a',rest,pre,rfl,hmost,rfl,hn',hnn,hnf,hb,hqs,hk,hsz,hj⟩:=hrel
  have HQs:=hid hqs
  have HK:=hid hk
  have HSz:=hid hsz
  have HJ:=hid hj
  have HBr:=hid hb
  have hcap:n'≤c':=(HBr.out.cap).2
  clear hqs hk hsz hj hb
  cases rest with
  |nil =>
   have h00:n'=0:=hn'
   subst h00
   have HS0:Hid (src=pre):=hid (by rw[HQs.out];cases f <;> simp[Od.seqs])
   clear hn' HBr HQs hnf
   gi_wp2
   go_end0
   exact ⟨⟨_,rfl⟩,.inl (by rw[HS0.out];exact HJ.out)⟩
  |cons x xs =>
   obtain ⟨k,q,t,HO,hqq⟩:=one_piece (most:=most) HEr.out HBr.out (HK.out.below (Nat.le_refl _)) (by omega) hmost
   obtain ⟨g,rfl⟩:∃ g,f=g+1:=⟨f-1,by simp at hn';omega⟩
   obtain ⟨X,hX⟩:∃ X,X=Od.numB most q:=⟨_,rfl⟩
   have HO5:=HO.val
   rw[←hX] at HO5
   rw[hqq,←hX] at HQs
   obtain ⟨ea,eb,hab⟩:=encN_two A X
   rw[hab] at HO5
   have HQq:Hid (src=(pre++[X])++Od.seqs g 2147483647 t):=hid (by rw[HQs.out];simp)
   have HOne:=hid HO
   obtain ⟨q0,q2,q3,q4,q5⟩:=num_facts k n' t.length HO.len (by omega)
   have HQ0:=hid q0
   have HQ5:=hid q5
   have HQg:Hid (n'-(k+1)≤g):=hid (by omega)
   have HIk:=hid HO.idx
   have HNk:=hid HO5
   have HR:Hid (∀ w5,wr.grownBy w5 none→∃ fn tmps assign body,(Instr.yield l #[ea,eb]).run Tryz.prog w5=.ok (.round l fn tmps assign body) w5∧RoundIn Fence.wide 4 Tryz.prog l fn tmps assign body w5 fun (e:Ending) W3=>∃ q:Bool,e=.returned (.bool q)∧KeepsP (fun r=>r<w.heap.size) w W3∧W.heap.size≤W3.heap.size∧(q=true→J (pre++[X]) W3)∧(q=false→∃ pr,pr <+: src∧Jx pr W3)):=hid (fun w5 h5=>by
    obtain ⟨fn,tmps,assign,body,hy,hR⟩:=HY.out pre X w5 ⟨_,HQq.out.symm⟩ (HJ0.out _ _ _ none HJ.out h5 (fun r e=>by cases e)) (Nat.le_trans HSz.out h5.size)
    rw[hab] at hy
    have HK5:KeepsP (fun r=>r<w.heap.size) w w5:=HK.out.trans (KeepsP.grown h5 (fun r hr=>⟨Nat.lt_of_lt_of_le hr HK.out.size,by simp⟩))
    refine ⟨fn,tmps,assign,body,hy,(hR 4).mono ?_⟩
    rintro e W3 (⟨rfl,h1,h2⟩|⟨rfl,h1,h2⟩)
    ·exact ⟨true,rfl,HK5.trans (h2.mono (fun r hr=>.inl hr)),Nat.le_trans HSz.out (Nat.le_trans h5.size h2.size),(fun _=>h1),fun h=>by cases h⟩
    ·exact ⟨false,rfl,HK5.trans (h2.mono (fun r hr=>.inl hr)),Nat.le_trans HSz.out (Nat.le_trans h5.size h2.size),(fun h=>by cases h),fun _=>⟨_,⟨_,HQq.out.symm⟩,h1⟩⟩)
   have hk1:((k+1:Nat):Int)=(k:Int)+1:=by omega
   clear HO hqq hn' HBr HQs HJ HY q0 q5 HK HSz HN HB HC H0 HN0 hJ hJx c1 hvc hX HO5 hab hnf HEr HJ0
   gi_wp2_with (first
    |(refine ⟨trivial,?_⟩;gi_at_call 173;refine (callsIn_wide.2 HIk.out).mono ?_;rintro e w' ⟨rfl,hw'⟩;have hw2:=hw'.symm;subst hw2;clear hw')
    |(refine ⟨trivial,?_⟩;gi_at_call 174;refine (callsIn_wide.2 HNk.out).mono ?_;rintro e w5 ⟨rfl,hg5⟩;obtain ⟨fn,tmps,assign,body,hy,hR⟩:=HR.out _ hg5;have HR2:=hid hR;clear hR hg5)
    |(refine RoundIn.mono HR2.out ?_;rintro e W3 ⟨q,rfl,hk3,hs3,ht3,hf3⟩;have K3:=hid hk3;have S3:=hid hs3;have T3:=hid ht3;have F3:=hid hf3;clear hk3 hs3 ht3 hf3))
   ·have hqf:q=false:=by cases q <;> simp_all
    refine bodyPost_ret (results_none rfl _ _ _) rfl ?_
    exact ⟨⟨_,rfl⟩,.inr (F3.out hqf)⟩
   ·have hqt:q=true:=by cases q <;> simp_all
    have HRest:Bytes w (.slice (if c'=k+1 then a' else Option.map (fun x=>{ block:=x.block,off:=x.off+(k+1) }) a') (n'-(k+1)) (c'-(k+1))) t:=HOne.out.rest
    refine ⟨⟨2147483647,_,_,g,_,t,pre++[X],rfl,by omega,rfl,HQ0.out,by omega,HQg.out,HRest,HQq.out,K3.out,S3.out,T3.out hqt⟩,?_⟩
    show n'-(k+1)<n'
    omega
theorem first_min (n:Nat) (hn:n≤2147483800):((n:Int).tdiv 40=((n/40:Nat):Int))∧Od.firstOf n=min (n/40) 2:=by
 refine ⟨?_,?_⟩
 ·rw[Int.tdiv_eq_ediv_of_nonneg (by omega)];rfl
 ·unfold Od.firstOf
  split
  ·omega
  ·split <;> omega
theorem ofBody_any (a:Option Addr) (n c:Nat) (w:World) :
  Calls Tryz.prog 155 #[.slice a n c] w fun e w'=>e=.returned (.func (.func 172) #[] #[.pointer (some ⟨w.heap.size,0,none⟩)])∧w'=w.alloc (.cells #[.slice a n c] 33):=by
 have hmf:=mkFun
 go_enter Tryz.func155,Tryz.ntmps155
 go_wp2
 go_ret
 exact ⟨rfl,rfl⟩
theorem whole0_sub (a:Addr) (k c n m:Nat):Whole0 (.slice (subA (some a) k c) n m):=by
 intro x y e
 unfold subA at e
 split at e <;> cases e
theorem enters43 (args:Array Value) (w:World):(callFunc 172 args).run Tryz.prog w=.ok (.enter 172 args) w:=by
 simp[go_sem]
def GtAny (A:Nat→Addr) (w:World):Prop:=∀ (v:Value) (b:List Nat) (W:World),w.grownBy W none→Bytes W v b→b.length≤100000→Calls Tryz.prog 122 #[v] W fun e w'=>W.grownBy w' none∧e=.returned (match Od.get b with
 |.ok l=>.tuple #[.string (strOf (Od.text l)),.nilIface]
 |.error k=>.tuple #[.string ⟨#[]⟩,errV A k])
theorem right_take16 (f s:Int) (r:List Int):Od.right (f :: s :: r.take 16)=Od.right (f :: s :: r):=by
 rcases Nat.lt_or_ge 16 r.length with h|h
 ·have h1:Od.right (f :: s :: r)=false:=by
   rw[←Bool.not_eq_true];intro e
   have:=((Od.right_iff _).1 e).1.2.1
   simp at this;omega
  have h2:Od.right (f :: s :: r.take 16)=false:=by
   rw[←Bool.not_eq_true];intro e
   have:=((Od.right_iff _).1 e).1.2.1
   simp[List.length_take] at this;omega
  rw[h1,h2]
 ·rw[List.take_of_length_le h]
theorem nums_first {f most:Nat} {b ns:List Nat} {n:Nat} (h:Od.nums f most b=.ok (n :: ns)):n≤most:=by
 cases b with
 |nil=>cases f <;> (rw[Od.nums] at h;cases h)
 |cons c l =>
  cases f with
  |zero=>rw[Od.nums] at h;cases h
  |succ f =>
   rw[Od.nums] at h
   split at h
   ·cases h
   ·split at h
    ·cases h
    ·split at h
     ·cases h
     ·rename_i h2
      split at h
      ·cases h
      ·have:=Except.ok.inj h
       have:=(List.cons.inj this).1
       omega
theorem nums_cons {f most:Nat} {b:List Nat} (h0:0<b.length) (h:Od.nums f most b=.ok []):False:=by
 cases b with
 |nil=>simp at h0
 |cons c l =>
  cases f with
  |zero=>rw[Od.nums] at h;cases h
  |succ f =>
   rw[Od.nums] at h
   split at h
   ·cases h
   ·split at h
    ·cases h
    ·split at h
     ·cases h
     ·split at h
      ·cases h
      ·cases Except.ok.inj h
theorem gt_any_t (A:Nat→Addr) (w0:World) (hF0:Tab10 w0) (hE0:SFErrs w0 A):GtAny A w0:=by
 intro v b w hw hB hl
 have hEw:=hE0.grown hw
 obtain ⟨_,a0,sb,so,c0,rfl,hc0,ha0,hcell⟩:=id hB
 rcases Nat.eq_zero_or_pos b.length with hz|hb0
 ·have hbn:b=[]:=List.length_eq_zero_iff.1 hz
  subst hbn
  have eS:=hEw.short
  clear hE0 hEw hF0 hcell ha0 hB
  simp only[Od.get,Od.nums,List.length_nil]
  go_enter Tryz.func122,Tryz.ntmps122
  go_wp2
  go_quiet (fail)
  go_wp2
  go_ret2
  exact ⟨grown_drewN (grown_refl _ _) _,rfl⟩
 obtain ⟨rfl,hsb⟩:=ha0 hb0
 have HOB:=hid (ofBody_any (some ⟨sb,so,none⟩) b.length c0 w)
 have hga:=World.grownBy_alloc w (.cells #[.slice (some ⟨sb,so,none⟩) b.length c0] 33) none
 have HG:=gather_any A 172 #[.pointer (some ⟨w.heap.size,0,none⟩)] 0 _ (w.alloc (.cells #[.slice (some ⟨sb,so,none⟩) b.length c0] 33)) enters43
  (ofBodyClo_seq A _ b _ w.heap.size _ (hEw.grown hga) (Boxed.new w _ _) (hB.grown hga) hl rfl)
 have hgat:=Od.seqs_nums b.length 2147483727 b (Nat.le_refl _)
 unfold Od.get
 unfold GaPost at HG
 rw[hgat] at HG
 cases hn:Od.nums b.length 2147483727 b with
 |error k =>
  rw[hn] at HG
  have HG2:Hid (Calls Tryz.prog 154 #[.func (.func 172) #[] #[.pointer (some ⟨w.heap.size,0,none⟩)]] (w.alloc (.cells #[.slice (some ⟨sb,so,none⟩) b.length c0] 33)) fun e w' =>
    w.grownBy w' none∧e=.returned (.tuple #[.slice none 0 0,errV A k])):=hid (HG.mono (by
   rintro e w' ⟨h1,h2⟩
   exact ⟨grown_trans hga h1,h2⟩))
  obtain ⟨m,hm⟩:∃ m,b.length=m+1:=⟨b.length-1,by omega⟩
  rw[hm] at HOB HG2
  rw[hm]
  clear HG hgat hn hB hcell hF0 hE0 hw hEw hsb ha0 hb0 hl hc0 hga hm
  go_enter Tryz.func122,Tryz.ntmps122
  go_wp2_with (first
   |(go_at_call 155;refine HOB.out.mono ?_;rintro e w1 ⟨rfl,rfl⟩)
   |(go_at_call 154;refine HG2.out.mono ?_;rintro e w2 ⟨hg2,rfl⟩;have HG3:=hid hg2;clear hg2))
  first
   |go_ret2
   |(go_quiet (fail);go_wp2;go_ret2)
  first
   |exact ⟨HG3.out,rfl⟩
   |exact ⟨grown_drewN HG3.out _,rfl⟩
 |ok ns =>
  rw[hn] at HG
  cases ns with
  |nil=>exact (nums_cons hb0 hn).elim
  |cons n r =>
   have hnb:n≤2147483727:=nums_first hn
   obtain ⟨R,hR⟩:∃ R:List Int,R=(r.map fun (m:Nat)=>(m:Int)).take 16:=⟨_,rfl⟩
   have hRl:R.length≤16:=by rw[hR,List.length_take];omega
   have HG2:Hid (Calls Tryz.prog 154 #[.func (.func 172) #[] #[.pointer (some ⟨w.heap.size,0,none⟩)]] (w.alloc (.cells #[.slice (some ⟨sb,so,none⟩) b.length c0] 33)) fun e w' =>
     w.grownBy w' none∧∃ g o c,e=.returned (.tuple #[.slice (some ⟨g,o,none⟩) (R.length+1) c,.nilIface])∧w'.cell? ⟨g,o,none⟩=some (.int .i64 (n:Nat))∧R.length+1≤c∧Ints w' (.slice (some ⟨g,o,none⟩) (R.length+1) c) ((n:Int) :: R)):=hid (HG.mono (by
    rintro e w' ⟨h1,h2⟩
    obtain ⟨u,h3,h4,h5⟩:=h2
    have htk:((n :: r).map fun (m:Nat)=>(m:Int)).take 17=(n:Int) :: R:=by rw[hR];rfl
    rw[htk] at h4
    refine ⟨grown_trans hga h1,?_⟩
    have h4':=h4
    obtain ⟨a,g,o,c,rfl,hc,ha,hcl⟩:=h4'
    obtain ⟨rfl,_⟩:=ha (by simp)
    have hc1:w'.cell? ⟨g,o,none⟩=some (.int .i64 (n:Nat)):=hcl 0 (by simp)
    simp only[List.length_cons] at *
    exact ⟨g,o,c,h3,hc1,hc,h4⟩))
   obtain ⟨_,hmin⟩:=first_min n (by omega)
   obtain ⟨f,hf⟩:∃ f,f=Od.firstOf n:=⟨_,rfl⟩
   obtain ⟨s,hs⟩:∃ s,s=n-40*Od.firstOf n:=⟨_,rfl⟩
   have q1:min ((n:Int)/40) 2=(f:Int):=by omega
   have q2:(n:Int)-(f:Int)*40=(s:Int):=by omega
   have hrt:=right_take16 (f:Int) (s:Int) (r.map fun (m:Nat)=>(m:Int))
   rw[←hR] at hrt
   have HTx:Hid (∀ v W,w.grownBy W none→Ints W v ((f:Int) :: (s:Int) :: R)→Calls Tryz.prog 156 #[v] W fun e w'=>e=.returned (match (if Od.right ((f:Int) :: (s:Int) :: r.map fun (m:Nat)=>(m:Int))=true then Except.ok ((f:Int) :: (s:Int) :: r.map fun (m:Nat)=>(m:Int)) else .error 1:Except Nat (List Int)) with
     |.ok l=>.tuple #[.string (strOf (Od.text l)),.nilIface]
     |.error k=>.tuple #[.string ⟨#[]⟩,errV A k])∧W.grownBy w' none):=hid (fun v W hW hI=>by
    have:=tx_spec_t A w0 hF0 hE0.rf v _ W (grown_trans hw hW) hI (by simp;omega)
    rw[hrt] at this
    refine this.mono (fun e w' h=>⟨?_,h.1⟩)
    rw[h.2]
    by_cases hr:Od.right ((f:Int) :: (s:Int) :: r.map fun (m:Nat)=>(m:Int))=true
    ·rw[if_pos hr,if_pos hr]
     have:R=r.map fun (m:Nat)=>(m:Int):=by
      rw[hR]
      exact List.take_of_length_le (by have:=((Od.right_iff _).1 hr).1.2.1;simp at this ⊢;omega)
     rw[this]
    ·rw[if_neg hr,if_neg hr])
   have hs':n-40*f=s:=by rw[hf,←hs]
   simp only[←hf,hs']
   obtain ⟨X,hX⟩:∃ X:Value,X=(match (if Od.right ((f:Int) :: (s:Int) :: r.map fun (m:Nat)=>(m:Int))=true then Except.ok ((f:Int) :: (s:Int) :: r.map fun (m:Nat)=>(m:Int)) else .error 1:Except Nat (List Int)) with
     |.ok l=>.tuple #[.string (strOf (Od.text l)),.nilIface]
     |.error k=>.tuple #[.string ⟨#[]⟩,errV A k]):=⟨_,rfl⟩
   have hX2:∃ x y,X=.tuple #[x,y]:=by
    rw[hX];split
    ·exact ⟨_,_,rfl⟩
    ·exact ⟨_,_,rfl⟩
   rw[←hX] at HTx ⊢
   obtain ⟨x,y,hxy⟩:=hX2
   rw[hxy] at HTx ⊢
   have HRl:=hid hRl
   obtain ⟨m,hm⟩:∃ m,b.length=m+1:=⟨b.length-1,by omega⟩
   rw[hm] at HOB HG2
   rw[hm]
   clear HG hgat hn hB hcell hF0 hE0 hw hEw hsb ha0 hb0 hl hc0 hga hm hs' hf hs hR hRl hmin hX hxy hrt
   go_enter Tryz.func122,Tryz.ntmps122
   go_wp2_with (first
    |(go_at_call 155;refine HOB.out.mono ?_;rintro e w1 ⟨rfl,rfl⟩)
    |(go_at_call 154;refine HG2.out.mono ?_;rintro e w2 ⟨hg2,g,o,c,rfl,c1,hc2,hi2⟩;have HG3:=hid hg2;have HI3:=hid hi2;have HI4:Hid (∀ W,w2.grownBy W none→Ints W (.slice (subA (some ⟨g,o,none⟩) 1 c) R.length (c-1)) R):=hid (fun W hW=>Ints.from (hi2.grown hW) 1 (by omega));clear hg2 hi2)
    |(at_builtin;refine wpList_appI (by rfl) (.tmp 34) (.tmp 36) 51 (by rfl) w.heap.size 3 (.int .i64 0) 8 Tryz.underlying51 (by kernel_rfl) rfl (by decide) _ 2 (cellsI [(f:Int),(s:Int)]) (by rfl) (ownsRow_lit (alloc_at w2 _) HG3.out.size (by simp)) _ R (by rfl) (HI4.out _ (World.grownBy_alloc _ _ _)) (whole0_sub _ _ _ _ _) (by have:=HRl.out;omega) (by have:=HG3.out.size;rw[alloc_size];omega) ?_;intro v' w3 ho3 hg3;have HG4:Hid (w.grownBy w3 none):=hid (grown_own (grown_alloc HG3.out _) (ownsRow_lit (alloc_at w2 _) HG3.out.size (by simp)) (Nat.le_refl _) hg3);have HI5:Hid (Ints w3 v' ((f:Int) :: (s:Int) :: R)):=hid (Ints.own (l:=(f:Int) :: (s:Int) :: R) ho3);clear ho3 hg3)
    |(go_at_call 156;refine (HTx.out _ _ HG4.out HI5.out).mono ?_;rintro e w4 ⟨rfl,hg4⟩;have HG5:=hid (grown_trans HG4.out hg4);clear hg4))
   go_ret2
   exact ⟨HG5.out,rfl⟩
end Go.Proofs.YtijkaknggdaajaaGreatDoor
