import Derived.Test.YtijkaknggdaajaaGreatDoorZr01
import Derived.Test.YtijkaknggdaajaaGreatDoorZr04
import Derived.Laws.RangeString
import Derived.Laws.RangeAny
import Derived.Lib.RuneCount
import Derived.BigQuiet
import Derived.Laws.Cover1
import Derived.Deep.Quiet
import Derived.Deep.QuietTactic
import Derived.StillTail
import Derived.KernelRfl
import Derived.Deep.MidRow
import Derived.WalkKit
set_option linter.unusedVariables false
set_option linter.unusedSimpArgs false
set_option maxRecDepth 100000
set_option maxHeartbeats 2000000
namespace Go.Proofs.YtijkaknggdaajaaGreatDoor
open Lib (hid)
open Go.RowKit
def TxLabel (w:World):Prop:=∀ (s:ByteArray) (W:World),s.size≤2000→w.grownBy W none→Calls Tryz.prog 43 #[.string s] W fun e w'=>W.grownBy w' none∧e=.returned (.bool (Pt.label (strL s)))
theorem isOf_any (r:Nat) (hr:r≤1114111) (w:World) :
  Calls Tryz.prog 86 #[.int .i32 r] w fun e w'=>e=.returned (.bool (Pt.okc r))∧w'=w:=by
 go_enter Tryz.func86,Tryz.ntmps86
 go_wp2
 all_goals (go_ret;refine ⟨congrArg Ending.returned (congrArg Value.bool ?_),rfl⟩;rw[Bool.eq_iff_iff];simp[Pt.okc];omega)
theorem index_str {P:Program} (w:World) (t:TypeId) (ht:P.underlying t=some .string) (s:ByteArray) (i:Int) (n:Nat) (hi:i=n) (hn:n<s.size) :
  (Instr.index t (.string s) (.int .i64 i)).run P w=.ok (.int .u8 ((strL s).getD n 0:Nat)) w:=by
 subst hi
 have h1:0≤(n:Int)∧(n:Int)<(s.size:Int):=by omega
 have h2:(s[(n:Int).toNat]'(by rw[Int.toNat_natCast];exact hn)).toNat=(strL s).getD n 0:=by
  have e:strL s=Pt.nums s.data.toList:=rfl
  rw[e,Pt.nums_at,Lib.getD_get!']
  congr 1
  cases s with
  |mk d=>exact (getElem!_pos d n hn).symm
 rw[run_index_string w t s .i64 (n:Int) ht,dif_pos h1,←h2]
theorem label_any (w:World):TxLabel w:=by
 intro s W hs hg
 have hz:s.data.toList.length=s.size:=by rw[Array.length_toList];rfl
 have hzl:=strL_len s
 have eL:Pt.label (strL s)=(decide (1≤s.size∧s.size≤24)&&(decide ((strL s).getD 0 0≠45)&&(decide ((strL s).getD (s.size-1) 0≠45)&&(strL s).all Pt.okc))):=by rw[Pt.label,hzl]
 rw[eL]
 clear eL
 by_cases h0:s.size=0
 ·rw[decide_eq_false (p:=1≤s.size∧s.size≤24) (by omega),Bool.false_and]
  go_enter Tryz.func43,Tryz.ntmps43
  go_wp2
  go_ret
  exact ⟨grown_refl _ _,rfl⟩
 ·have z0:((s.size:Int)==0)=false:=by rw[beq_eq_false_iff_ne];omega
  by_cases h24:24<s.size
  ·rw[decide_eq_false (p:=1≤s.size∧s.size≤24) (by omega),Bool.false_and]
   have z24:(24:Int)<(s.size:Int):=by omega
   go_enter Tryz.func43,Tryz.ntmps43
   go_wp2
   go_ret
   exact ⟨grown_refl _ _,rfl⟩
  ·rw[decide_eq_true (p:=1≤s.size∧s.size≤24) (by omega),Bool.true_and]
   have z24:¬ (24:Int)<(s.size:Int):=by omega
   have i0:∀ w,(Instr.index 9 (.string s) (.int .i64 0)).run Tryz.prog w=.ok (.int .u8 ((strL s).getD 0 0:Nat)) w:=fun w=>index_str w 9 Tryz.underlying9 s 0 0 rfl (by omega)
   have iL:∀ w,(Instr.index 9 (.string s) (.int .i64 ((s.size:Int)-1))).run Tryz.prog w=.ok (.int .u8 ((strL s).getD (s.size-1) 0:Nat)) w:=fun w=>index_str w 9 Tryz.underlying9 s _ (s.size-1) (by omega) (by omega)
   generalize (strL s).getD 0 0=x at *
   generalize (strL s).getD (s.size-1) 0=y at *
   by_cases hx:x=45
   ·subst hx
    rw[decide_eq_false (p:=(45:Nat)≠45) (by omega),Bool.false_and]
    go_enter Tryz.func43,Tryz.ntmps43
    go_wp2
    go_ret
    exact ⟨grown_refl _ _,rfl⟩
   ·rw[decide_eq_true hx,Bool.true_and]
    have zx:((x:Int)==45)=false:=by rw[beq_eq_false_iff_ne];omega
    by_cases hy:y=45
    ·subst hy
     rw[decide_eq_false (p:=(45:Nat)≠45) (by omega),Bool.false_and]
     go_enter Tryz.func43,Tryz.ntmps43
     go_wp2
     go_ret
     exact ⟨grown_refl _ _,rfl⟩
    ·rw[decide_eq_true hy,Bool.true_and]
     have zy:((y:Int)==45)=false:=by rw[beq_eq_false_iff_ne];omega
     have eP:(strL s).all Pt.okc=(Pt.nums (s.data.toList.drop 0)).all Pt.okc:=by rw[List.drop_zero];rfl
     rw[eP]
     obtain ⟨R,hR⟩:∃ R,R=(Pt.nums (s.data.toList.drop 0)).all Pt.okc:=⟨_,rfl⟩
     rw[←hR]
     have H0:Hid (R=(Pt.nums (s.data.toList.drop 0)).all Pt.okc):=hid hR
     have HZ:=hid hz
     clear hR eP hz hzl hg
     go_enter Tryz.func43,Tryz.ntmps43
     go_wp2
     go_loopw [4] (fun _ w'=>∃ pos,w'=W.iter s pos∧Hid (R=(Pt.nums (s.data.toList.drop pos)).all Pt.okc)) (fun _ w'=>s.size-w'.iterPos W.heap.size)
     case atStart=>exact ⟨0,rfl,H0⟩
     case round =>
      obtain ⟨pos,rfl,H1⟩:=hrel
      clear H0
      by_cases hp:pos<s.size
      ·have hnx:∀ ty,(Instr.next (.pointer (some ⟨W.heap.size,0,none⟩)) true ty).run Tryz.prog (W.iter s pos)=_:=fun ty=>run_next_any W s pos ty hp
       have hwd:=Lib.decode_width_pos s pos hp
       have hr:=Lib.rune_le s pos
       have hd:=Pt.allok_decode (s.data.toList.drop pos) (by intro e;have:=congrArg List.length e;rw[List.length_drop,HZ.out,List.length_nil] at this;omega)
       rw[Lib.decodeL_drop,List.drop_drop,←H1.out] at hd
       generalize (Utf8.decode s pos).1=r at *
       generalize (Utf8.decode s pos).2=k at *
       have hI:=fun W=>isOf_any r hr W
       have HD:=hid hd
       clear hd H1
       cases hok:Pt.okc r with
       |false =>
        have hR:R=false:=by rw[HD.out,hok,Bool.false_and]
        subst hR
        rw[hok] at hI
        go_wp2_with (go_at_call 86;refine (hI _).mono ?_;rintro e w3 ⟨rfl,rfl⟩)
        go_ret
        exact ⟨grown_alloc (grown_refl _ _) _,rfl⟩
       |true =>
        have HR:Hid (R=(Pt.nums (s.data.toList.drop (pos+k))).all Pt.okc):=hid (by have h:=HD.out;rw[hok,Bool.true_and] at h;exact h)
        rw[hok] at hI
        clear HD
        go_wp2_with (go_at_call 86;refine (hI _).mono ?_;rintro e w3 ⟨rfl,hw3⟩;have hw3':=hw3.symm;subst hw3';clear hw3)
        go_roundw
        case rel=>exact ⟨pos+k,rfl,HR⟩
        case measure=>simp;omega
      ·have hnx:∀ ty,(Instr.next (.pointer (some ⟨W.heap.size,0,none⟩)) true ty).run Tryz.prog (W.iter s pos)=_:=fun ty=>run_next_end W s pos ty hp
       have hR:R=true:=by
        rw[H1.out,List.drop_eq_nil_of_le (by rw[HZ.out];omega)]
        rfl
       subst hR
       go_wp2
       go_ret
       exact ⟨grown_alloc (grown_refl _ _) _,rfl⟩
def Words (w:World):Prop:=∀ k:Nat,k<6→w.cell? ⟨1,k,none⟩=some (.string (Na.word k))
theorem Words.grown {w w':World} (h:Words w) (hg:w.grownBy w' none):Words w':=fun k hk =>
 (World.cell?_of_block (hg.block _ (World.block_lt_of_cell? w _ (h k hk)) (by simp))).trans (h k hk)
theorem emp_str (s:ByteArray):s.toList.isEmpty=decide (s=⟨#[]⟩):=by
 rw[Bool.eq_iff_iff,List.isEmpty_iff,decide_eq_true_eq]
 exact ⟨fun h=>Na.toList_inj (h.trans (by decide +kernel)),fun h=>by rw[h];decide +kernel⟩
theorem right_any (s:Na.Sb) (h1:s.sp.size≤2000) (h2:s.nm.size≤2000) (w:World):Calls Tryz.prog 11 #[Na.val s] w fun e w'=>e=.returned (.bool (Na.right s))∧w.grownBy w' none:=by
 obtain ⟨k,sp,nm⟩:=s
 have HL1:=hid (fun W=>label_any W sp W h1 (grown_refl _ _))
 have HL2:=hid (fun W=>label_any W nm W h2 (grown_refl _ _))
 have he:=emp_str sp
 unfold Na.val Na.right
 simp only
 generalize Pt.label (strL nm)=ln at *
 generalize Pt.label (strL sp)=ls at *
 clear h1 h2
 generalize hd:decide (sp=⟨#[]⟩)=ds at *
 clear hd
 by_cases k1:k<1
 ·rw[decide_eq_false (p:=1≤k∧k≤5) (by omega),Bool.false_and]
  clear he
  go_enter Tryz.func11,Tryz.ntmps11
  go_wp2
  go_ret
  exact ⟨rfl,grown_alloc (grown_refl _ _) _⟩
 by_cases k5:5<k
 ·rw[decide_eq_false (p:=1≤k∧k≤5) (by omega),Bool.false_and]
  clear he
  go_enter Tryz.func11,Tryz.ntmps11
  go_wp2
  go_ret
  exact ⟨rfl,grown_alloc (grown_refl _ _) _⟩
 rw[decide_eq_true (p:=1≤k∧k≤5) (by omega),Bool.true_and]
 cases ln with
 |false =>
  rw[Bool.false_and]
  clear he
  go_enter Tryz.func11,Tryz.ntmps11
  go_wp2_with (go_at_call 43;refine (HL2.out _).mono ?_;rintro e w2 ⟨hg2,rfl⟩;have HG2:=hid (grown_trans (grown_alloc (grown_refl _ _) _) hg2);clear hg2)
  go_ret
  exact ⟨rfl,HG2.out⟩
 |true =>
  rw[Bool.true_and]
  by_cases k2:k=2
  ·subst k2
   rw[if_pos rfl]
   clear he
   have HC:Hid (∀ W,(w.alloc (.cells #[.int .i64 2,.string sp,.string nm] 23)).grownBy W none→W.cell? ⟨w.heap.size,0,none⟩=some (.int .i64 2)∧W.cell? ⟨w.heap.size,1,none⟩=some (.string sp)):=hid (fun W hg=>by
    have hb:=hg.block w.heap.size (by rw[alloc_size];omega) (by simp)
    exact ⟨(World.cell?_of_block hb).trans (cell_blk (alloc_at w _) 0 rfl),(World.cell?_of_block hb).trans (cell_blk (alloc_at w _) 1 rfl)⟩)
   go_enter Tryz.func11,Tryz.ntmps11
   go_wp2_with (first
    |(go_at_call 43;with_reducible refine (HL2.out _).mono ?_;rintro e w2 ⟨hg2,rfl⟩;obtain ⟨c0,c1⟩:=HC.out _ hg2;have HG2:=hid (grown_trans (grown_alloc (grown_refl _ _) _) hg2);clear hg2)
    |(go_at_call 43;with_reducible refine (HL1.out _).mono ?_;rintro e w3 ⟨hg3,rfl⟩;have HG3:=hid (grown_trans HG2.out hg3);clear hg3))
   go_ret
   exact ⟨rfl,HG3.out⟩
  ·rw[if_neg k2]
   have hk2:(k==2)=false:=by simpa using k2
   have HC:Hid (∀ W,(w.alloc (.cells #[.int .i64 k,.string sp,.string nm] 23)).grownBy W none→W.cell? ⟨w.heap.size,0,none⟩=some (.int .i64 k)∧W.cell? ⟨w.heap.size,1,none⟩=some (.string sp)):=hid (fun W hg=>by
    have hb:=hg.block w.heap.size (by rw[alloc_size];omega) (by simp)
    exact ⟨(World.cell?_of_block hb).trans (cell_blk (alloc_at w _) 0 rfl),(World.cell?_of_block hb).trans (cell_blk (alloc_at w _) 1 rfl)⟩)
   clear k2
   go_enter Tryz.func11,Tryz.ntmps11
   go_wp2_with (go_at_call 43;refine (HL2.out _).mono ?_;rintro e w2 ⟨hg2,rfl⟩;obtain ⟨c0,c1⟩:=HC.out _ hg2;have HG2:=hid (grown_trans (grown_alloc (grown_refl _ _) _) hg2);clear hg2)
   go_ret
   exact ⟨rfl,HG2.out⟩
def Na.text (s:Na.Sb):ByteArray:=Na.word s.k++⟨#[58]⟩++(if s.sp=⟨#[]⟩ then s.nm else s.sp++⟨#[47]⟩++s.nm)
theorem word_size (k:Int):(Na.word k).size≤8:=by
 unfold Na.word
 repeat' split
 all_goals decide
theorem text_ok (s:Na.Sb) (h1:s.sp.size≤2000) (h2:s.nm.size≤2000) (hr:Na.right s=true) (w:World) (hW:Words w):Calls Tryz.prog 9 #[Na.val s] w fun e w'=>e=.returned (.tuple #[.string (Na.text s),.nilIface])∧w.grownBy w' none:=by
 have HR:=hid (fun W=>right_any s h1 h2 W)
 have hk:1≤s.k∧s.k≤5:=by
  unfold Na.right at hr
  rw[Bool.and_eq_true,decide_eq_true_eq] at hr
  exact hr.1
 rw[hr] at HR
 obtain ⟨R,hR⟩:∃ R,R=Na.text s:=⟨_,rfl⟩
 rw[←hR]
 unfold Na.text at hR
 obtain ⟨k,sp,nm⟩:=s
 simp only at *
 obtain ⟨n,rfl⟩:∃ n:Nat,k=n:=⟨k.toNat,by omega⟩
 have hws:=word_size n
 have he:=emp_str sp
 unfold Na.val at *
 generalize hwd:Na.word (n:Int)=wd at *
 have HC:Hid (∀ W,(w.alloc (.cells #[.int .i64 n,.string sp,.string nm] 23)).grownBy W none→W.cell? ⟨w.heap.size,0,none⟩=some (.int .i64 n)∧W.cell? ⟨w.heap.size,1,none⟩=some (.string sp)∧W.cell? ⟨w.heap.size,2,none⟩=some (.string nm)∧W.cell? ⟨1,n,none⟩=some (.string wd)):=hid (fun W hg=>by
  have hb:=hg.block w.heap.size (by rw[alloc_size];omega) (by simp)
  refine ⟨(World.cell?_of_block hb).trans (cell_blk (alloc_at w _) 0 rfl),(World.cell?_of_block hb).trans (cell_blk (alloc_at w _) 1 rfl),(World.cell?_of_block hb).trans (cell_blk (alloc_at w _) 2 rfl),?_⟩
  rw[←hwd]
  exact (hW.grown (grown_alloc (grown_refl _ _) _)).grown hg n (by omega))
 have k0:(0:Int)≤(n:Int):=by omega
 have k6:(n:Int)<6:=by omega
 have z0:(wd.size:Int)≤8388608:=by omega
 have z1:(nm.size:Int)≤8388608:=by omega
 have z2:(sp.size:Int)≤8388608:=by omega
 have z3:wd.size+1≤9223372036854775807:=by omega
 have z4:wd.size+1+nm.size≤9223372036854775807:=by omega
 by_cases hs:sp=⟨#[]⟩
 ·rw[if_pos hs] at hR
  rw[decide_eq_true hs] at he
  have HRs:=hid hR
  clear hR hs hr hk hW h1 h2 hwd hws
  go_enter Tryz.func9,Tryz.ntmps9
  go_wp2_with (go_at_call 11;refine (HR.out _).mono ?_;rintro e w2 ⟨rfl,hg2⟩;obtain ⟨c0,c1,c2,c3⟩:=HC.out _ (grown_trans (grown_refl _ _) hg2);have HG2:=hid (grown_trans (grown_alloc (grown_refl _ _) _) hg2);clear hg2)
  go_ret2
  exact ⟨by rw[HRs.out];rfl,HG2.out⟩
 ·rw[if_neg hs] at hR
  rw[decide_eq_false hs] at he
  have HRs:=hid hR
  have z5:sp.size+1≤9223372036854775807:=by omega
  have z6:sp.size+1+nm.size≤9223372036854775807:=by omega
  have z7:(sp++⟨#[47]⟩:ByteArray).size=sp.size+1:=by rw[ByteArray.size_append];rfl
  have z8:(sp++⟨#[47]⟩++nm:ByteArray).size=sp.size+1+nm.size:=by rw[ByteArray.size_append,ByteArray.size_append];rfl
  have z9:(wd++⟨#[58]⟩:ByteArray).size=wd.size+1:=by rw[ByteArray.size_append];rfl
  clear hR hs hr hk hW hwd
  go_enter Tryz.func9,Tryz.ntmps9
  go_wp2_with (go_at_call 11;refine (HR.out _).mono ?_;rintro e w2 ⟨rfl,hg2⟩;obtain ⟨c0,c1,c2,c3⟩:=HC.out _ (grown_trans (grown_refl _ _) hg2);have HG2:=hid (grown_trans (grown_alloc (grown_refl _ _) _) hg2);clear hg2)
  go_ret2
  exact ⟨by rw[HRs.out];rfl,HG2.out⟩
theorem shopweb_right:Na.right ⟨2,⟨#[115,104,111,112]⟩,⟨#[119,101,98]⟩⟩=true:=by decide +kernel
theorem shopweb_text:Na.text ⟨2,⟨#[115,104,111,112]⟩,⟨#[119,101,98]⟩⟩=⟨#[119,111,114,107,108,111,97,100,58,115,104,111,112,47,119,101,98]⟩:=by decide +kernel
theorem alive9_any (w:World) (hW:Words w):Calls Tryz.prog 6 #[] w fun e w'=>e=.returned (.bool true)∧w.grownBy w' none:=by
 have HT:=hid (text_ok ⟨2,⟨#[115,104,111,112]⟩,⟨#[119,101,98]⟩⟩ (by decide) (by decide) shopweb_right w hW)
 rw[shopweb_text] at HT
 unfold Na.val at HT
 go_enter Tryz.func6,Tryz.ntmps6
 go_wp2_with (go_at_call 9;refine HT.out.mono ?_;rintro e w2 ⟨rfl,hg2⟩;have HG2:=hid hg2;clear hg2)
 go_ret
 exact ⟨retB7 (by decide +kernel),HG2.out⟩
namespace Na
def e0:ByteArray:=⟨#[]⟩
def o1:ByteArray:=⟨#[49,46,51,46,57,57,57,57,46,49,46,49]⟩
def o2:ByteArray:=⟨#[49,46,51,46,57,57,57,57,46,49,46,50]⟩
def o3:ByteArray:=⟨#[49,46,51,46,57,57,57,57,46,49,46,51]⟩
abbrev Pr:=ByteArray×ByteArray
def parts (s:Sb):List Pr:=(o1,word s.k) :: ((if s.sp=e0 then [] else [(o2,s.sp)])++[(o3,s.nm)])
def firstOf (o:ByteArray):List Pr→ByteArray
 |[]=>e0
 |p :: r=>if p.1=o then p.2 else firstOf o r
def kindOf (w:ByteArray):Int:=if w=word 1 then 1 else if w=word 2 then 2 else if w=word 3 then 3 else if w=word 4 then 4 else if w=word 5 then 5 else 0
def s0 (l:List Pr):Sb:=⟨kindOf (firstOf o1 l),firstOf o2 l,firstOf o3 l⟩
def cand (k:Int) (l:List Pr):Sb:=⟨k,if k=2∧1<l.length then (l.getD 1 (e0,e0)).2 else e0,if 0<l.length then (l.getD (l.length-1) (e0,e0)).2 else e0⟩
theorem strL_e0:strL e0=[]:=by decide +kernel
theorem label_ne {s:ByteArray} (h:Pt.label (strL s)=true):s≠e0:=by
 intro e
 rw[e,strL_e0] at h
 exact absurd h (by decide)
theorem right_facts {s:Sb} (h:right s=true):(1≤s.k∧s.k≤5)∧Pt.label (strL s.nm)=true∧(s.k=2→Pt.label (strL s.sp)=true)∧(s.k≠2→s.sp=e0)∧(s.sp=e0↔s.k≠2):=by
 unfold right at h
 simp only[Bool.and_eq_true,decide_eq_true_eq] at h
 obtain ⟨h1,h2,h3⟩:=h
 have a1:s.k=2→Pt.label (strL s.sp)=true:=fun h=>by rwa [if_pos h] at h3
 have a2:s.k≠2→s.sp=e0:=fun h=>by
  rw[if_neg h,decide_eq_true_eq] at h3
  exact h3
 exact ⟨h1,h2,a1,a2,fun h h'=>label_ne (a1 h') h,a2⟩
theorem kind_word {k:Int} (h:1≤k∧k≤5):kindOf (word k)=k:=by
 rcases (show k=1∨k=2∨k=3∨k=4∨k=5 by omega) with rfl|rfl|rfl|rfl|rfl <;> decide +kernel
theorem o12:o1≠o2:=by decide +kernel
theorem o13:o1≠o3:=by decide +kernel
theorem o23:o2≠o3:=by decide +kernel
theorem s0_parts {s:Sb} (h:right s=true):s0 (parts s)=s:=by
 obtain ⟨h1,_,_,_,_⟩:=right_facts h
 obtain ⟨k,sp,nm⟩:=s
 have f1:firstOf o1 (parts ⟨k,sp,nm⟩)=word k:=by unfold parts firstOf;rw[if_pos rfl]
 have f2:firstOf o2 (parts ⟨k,sp,nm⟩)=sp:=by
  unfold parts
  by_cases e:sp=e0
  ·rw[if_pos e,List.nil_append,firstOf,if_neg o12,firstOf,if_neg (fun h=>o23 h.symm),firstOf,e]
  ·rw[if_neg e,List.cons_append,List.nil_append,firstOf,if_neg o12,firstOf,if_pos rfl]
 have f3:firstOf o3 (parts ⟨k,sp,nm⟩)=nm:=by
  unfold parts
  by_cases e:sp=e0
  ·rw[if_pos e,List.nil_append,firstOf,if_neg o13,firstOf,if_pos rfl]
  ·rw[if_neg e,List.cons_append,List.nil_append,firstOf,if_neg o13,firstOf,if_neg o23,firstOf,if_pos rfl]
 unfold s0
 rw[f1,f2,f3,kind_word h1]
theorem cand_parts {s:Sb} (h:right s=true):cand s.k (parts s)=s:=by
 obtain ⟨_,_,_,h4,h5⟩:=right_facts h
 obtain ⟨k,sp,nm⟩:=s
 simp only at h4 h5 ⊢
 unfold cand parts
 by_cases e:sp=e0
 ·have hk:=h5.1 e
  rw[if_neg (fun h=>hk h.1),if_pos (by simp[e]),e]
  simp
 ·have hk:k=2:=Decidable.byContradiction (fun h=>e (h4 h))
  simp[e,hk]
end Na
end Go.Proofs.YtijkaknggdaajaaGreatDoor
