import Derived.Test.YtijkaknggdaajaaGreatDoorZt03
import Derived.Test.YtijkaknggdaajaaGreatDoorZt04
import Derived.Test.YtijkaknggdaajaaGreatDoorZt11
import Derived.BigQuiet
import Derived.Laws.Cover1
set_option linter.unusedVariables false
set_option linter.unusedSimpArgs false
set_option maxRecDepth 100000
set_option maxHeartbeats 2000000
namespace Go.Proofs.YtijkaknggdaajaaGreatDoor
open Lib (hid)
open Go.RowKit
def Words (w:World):Prop:=∀ k:Nat,k<6→w.cell? ⟨1,k,none⟩=some (.string (Na.word k))
theorem Words.grown {w w':World} (h:Words w) (hg:w.grownBy w' none):Words w':=fun k hk =>
 (World.cell?_of_block (hg.block _ (World.block_lt_of_cell? w _ (h k hk)) (by simp))).trans (h k hk)
theorem emp_str (s:ByteArray):s.toList.isEmpty=decide (s=⟨#[]⟩):=by
 rw[Bool.eq_iff_iff,List.isEmpty_iff,decide_eq_true_eq]
 exact ⟨fun h=>Na.toList_inj (h.trans (by decide +kernel)),fun h=>by rw[h];decide +kernel⟩
theorem right_any (s:Na.Sb) (h1:s.sp.size≤2000) (h2:s.nm.size≤2000) (w:World):Calls Tryz.prog 11 #[Na.val s] w fun e w'=>e=.returned (.bool (Na.right s))∧w.grownBy w' none:=by
 obtain ⟨k,sp,nm⟩:=s
 have HL1:=hid (fun W=>label_any W sp W h1 (grown_refl _ _))
 have HL2:=hid (fun W=>label_any W nm W h2 (grown_refl _ _))
 have he:=emp_str sp
 unfold Na.val Na.right
 simp only
 generalize Pt.label (strL nm)=ln at *
 generalize Pt.label (strL sp)=ls at *
 clear h1 h2
 generalize hd:decide (sp=⟨#[]⟩)=ds at *
 clear hd
 by_cases k1:k<1
 ·rw[decide_eq_false (p:=1≤k∧k≤5) (by omega),Bool.false_and]
  clear he
  go_enter Tryz.func11,Tryz.ntmps11
  go_wp2
  go_ret
  exact ⟨rfl,grown_alloc (grown_refl _ _) _⟩
 by_cases k5:5<k
 ·rw[decide_eq_false (p:=1≤k∧k≤5) (by omega),Bool.false_and]
  clear he
  go_enter Tryz.func11,Tryz.ntmps11
  go_wp2
  go_ret
  exact ⟨rfl,grown_alloc (grown_refl _ _) _⟩
 rw[decide_eq_true (p:=1≤k∧k≤5) (by omega),Bool.true_and]
 cases ln with
 |false =>
  rw[Bool.false_and]
  clear he
  go_enter Tryz.func11,Tryz.ntmps11
  go_wp2_with (go_at_call 43;refine (HL2.out _).mono ?_;rintro e w2 ⟨hg2,rfl⟩;have HG2:=hid (grown_trans (grown_alloc (grown_refl _ _) _) hg2);clear hg2)
  go_ret
  exact ⟨rfl,HG2.out⟩
 |true =>
  rw[Bool.true_and]
  by_cases k2:k=2
  ·subst k2
   rw[if_pos rfl]
   clear he
   have HC:Hid (∀ W,(w.alloc (.cells #[.int .i64 2,.string sp,.string nm] 23)).grownBy W none→W.cell? ⟨w.heap.size,0,none⟩=some (.int .i64 2)∧W.cell? ⟨w.heap.size,1,none⟩=some (.string sp)):=hid (fun W hg=>by
    have hb:=hg.block w.heap.size (by rw[alloc_size];omega) (by simp)
    exact ⟨(World.cell?_of_block hb).trans (cell_blk (alloc_at w _) 0 rfl),(World.cell?_of_block hb).trans (cell_blk (alloc_at w _) 1 rfl)⟩)
   go_enter Tryz.func11,Tryz.ntmps11
   go_wp2_with (first
    |(go_at_call 43;with_reducible refine (HL2.out _).mono ?_;rintro e w2 ⟨hg2,rfl⟩;obtain ⟨c0,c1⟩:=HC.out _ hg2;have HG2:=hid (grown_trans (grown_alloc (grown_refl _ _) _) hg2);clear hg2)
    |(go_at_call 43;with_reducible refine (HL1.out _).mono ?_;rintro e w3 ⟨hg3,rfl⟩;have HG3:=hid (grown_trans HG2.out hg3);clear hg3))
   go_ret
   exact ⟨rfl,HG3.out⟩
  ·rw[if_neg k2]
   have hk2:(k==2)=false:=by simpa using k2
   have HC:Hid (∀ W,(w.alloc (.cells #[.int .i64 k,.string sp,.string nm] 23)).grownBy W none→W.cell? ⟨w.heap.size,0,none⟩=some (.int .i64 k)∧W.cell? ⟨w.heap.size,1,none⟩=some (.string sp)):=hid (fun W hg=>by
    have hb:=hg.block w.heap.size (by rw[alloc_size];omega) (by simp)
    exact ⟨(World.cell?_of_block hb).trans (cell_blk (alloc_at w _) 0 rfl),(World.cell?_of_block hb).trans (cell_blk (alloc_at w _) 1 rfl)⟩)
   clear k2
   go_enter Tryz.func11,Tryz.ntmps11
   go_wp2_with (go_at_call 43;refine (HL2.out _).mono ?_;rintro e w2 ⟨hg2,rfl⟩;obtain ⟨c0,c1⟩:=HC.out _ hg2;have HG2:=hid (grown_trans (grown_alloc (grown_refl _ _) _) hg2);clear hg2)
   go_ret
   exact ⟨rfl,HG2.out⟩
def Na.text (s:Na.Sb):ByteArray:=Na.word s.k++⟨#[58]⟩++(if s.sp=⟨#[]⟩ then s.nm else s.sp++⟨#[47]⟩++s.nm)
theorem word_size (k:Int):(Na.word k).size≤8:=by
 unfold Na.word
 repeat' split
 all_goals decide
theorem text_ok (s:Na.Sb) (h1:s.sp.size≤2000) (h2:s.nm.size≤2000) (hr:Na.right s=true) (w:World) (hW:Words w):Calls Tryz.prog 9 #[Na.val s] w fun e w'=>e=.returned (.tuple #[.string (Na.text s),.nilIface])∧w.grownBy w' none:=by
 have HR:=hid (fun W=>right_any s h1 h2 W)
 have hk:1≤s.k∧s.k≤5:=by
  unfold Na.right at hr
  rw[Bool.and_eq_true,decide_eq_true_eq] at hr
  exact hr.1
 rw[hr] at HR
 obtain ⟨R,hR⟩:∃ R,R=Na.text s:=⟨_,rfl⟩
 rw[←hR]
 unfold Na.text at hR
 obtain ⟨k,sp,nm⟩:=s
 simp only at *
 obtain ⟨n,rfl⟩:∃ n:Nat,k=n:=⟨k.toNat,by omega⟩
 have hws:=word_size n
 have he:=emp_str sp
 unfold Na.val at *
 generalize hwd:Na.word (n:Int)=wd at *
 have HC:Hid (∀ W,(w.alloc (.cells #[.int .i64 n,.string sp,.string nm] 23)).grownBy W none→W.cell? ⟨w.heap.size,0,none⟩=some (.int .i64 n)∧W.cell? ⟨w.heap.size,1,none⟩=some (.string sp)∧W.cell? ⟨w.heap.size,2,none⟩=some (.string nm)∧W.cell? ⟨1,n,none⟩=some (.string wd)):=hid (fun W hg=>by
  have hb:=hg.block w.heap.size (by rw[alloc_size];omega) (by simp)
  refine ⟨(World.cell?_of_block hb).trans (cell_blk (alloc_at w _) 0 rfl),(World.cell?_of_block hb).trans (cell_blk (alloc_at w _) 1 rfl),(World.cell?_of_block hb).trans (cell_blk (alloc_at w _) 2 rfl),?_⟩
  rw[←hwd]
  exact (hW.grown (grown_alloc (grown_refl _ _) _)).grown hg n (by omega))
 have k0:(0:Int)≤(n:Int):=by omega
 have k6:(n:Int)<6:=by omega
 have z0:(wd.size:Int)≤8388608:=by omega
 have z1:(nm.size:Int)≤8388608:=by omega
 have z2:(sp.size:Int)≤8388608:=by omega
 have z3:wd.size+1≤9223372036854775807:=by omega
 have z4:wd.size+1+nm.size≤9223372036854775807:=by omega
 by_cases hs:sp=⟨#[]⟩
 ·rw[if_pos hs] at hR
  rw[decide_eq_true hs] at he
  have HRs:=hid hR
  clear hR hs hr hk hW h1 h2 hwd hws
  go_enter Tryz.func9,Tryz.ntmps9
  go_wp2_with (go_at_call 11;refine (HR.out _).mono ?_;rintro e w2 ⟨rfl,hg2⟩;obtain ⟨c0,c1,c2,c3⟩:=HC.out _ (grown_trans (grown_refl _ _) hg2);have HG2:=hid (grown_trans (grown_alloc (grown_refl _ _) _) hg2);clear hg2)
  go_ret2
  exact ⟨by rw[HRs.out];rfl,HG2.out⟩
 ·rw[if_neg hs] at hR
  rw[decide_eq_false hs] at he
  have HRs:=hid hR
  have z5:sp.size+1≤9223372036854775807:=by omega
  have z6:sp.size+1+nm.size≤9223372036854775807:=by omega
  have z7:(sp++⟨#[47]⟩:ByteArray).size=sp.size+1:=by rw[ByteArray.size_append];rfl
  have z8:(sp++⟨#[47]⟩++nm:ByteArray).size=sp.size+1+nm.size:=by rw[ByteArray.size_append,ByteArray.size_append];rfl
  have z9:(wd++⟨#[58]⟩:ByteArray).size=wd.size+1:=by rw[ByteArray.size_append];rfl
  clear hR hs hr hk hW hwd
  go_enter Tryz.func9,Tryz.ntmps9
  go_wp2_with (go_at_call 11;refine (HR.out _).mono ?_;rintro e w2 ⟨rfl,hg2⟩;obtain ⟨c0,c1,c2,c3⟩:=HC.out _ (grown_trans (grown_refl _ _) hg2);have HG2:=hid (grown_trans (grown_alloc (grown_refl _ _) _) hg2);clear hg2)
  go_ret2
  exact ⟨by rw[HRs.out];rfl,HG2.out⟩
theorem shopweb_right:Na.right ⟨2,⟨#[115,104,111,112]⟩,⟨#[119,101,98]⟩⟩=true:=by decide +kernel
theorem shopweb_text:Na.text ⟨2,⟨#[115,104,111,112]⟩,⟨#[119,101,98]⟩⟩=⟨#[119,111,114,107,108,111,97,100,58,115,104,111,112,47,119,101,98]⟩:=by decide +kernel
theorem alive9_any (w:World) (hW:Words w):Calls Tryz.prog 6 #[] w fun e w'=>e=.returned (.bool true)∧w.grownBy w' none:=by
 have HT:=hid (text_ok ⟨2,⟨#[115,104,111,112]⟩,⟨#[119,101,98]⟩⟩ (by decide) (by decide) shopweb_right w hW)
 rw[shopweb_text] at HT
 unfold Na.val at HT
 go_enter Tryz.func6,Tryz.ntmps6
 go_wp2_with (go_at_call 9;refine HT.out.mono ?_;rintro e w2 ⟨rfl,hg2⟩;have HG2:=hid hg2;clear hg2)
 go_ret
 exact ⟨retB7 (by decide +kernel),HG2.out⟩
def Na.lng (s:Na.Sb):Bool:=decide (200<s.sp.size)||decide (200<s.nm.size)
theorem long9_any (s:Na.Sb) (w:World):Calls Tryz.prog 7 #[Na.val s] w fun e w'=>e=.returned (.bool (Na.lng s))∧w.grownBy w' none:=by
 obtain ⟨k,sp,nm⟩:=s
 unfold Na.lng Na.val
 simp only
 go_enter Tryz.func7,Tryz.ntmps7
 go_wp2
 all_goals
  go_ret
  exact ⟨retB7 (by rw[Bool.eq_iff_iff];simp;omega),grown_alloc (grown_refl _ _) _⟩
namespace Na
def e0:ByteArray:=⟨#[]⟩
def o1:ByteArray:=⟨#[49,46,51,46,57,57,57,57,46,49,46,49]⟩
def o2:ByteArray:=⟨#[49,46,51,46,57,57,57,57,46,49,46,50]⟩
def o3:ByteArray:=⟨#[49,46,51,46,57,57,57,57,46,49,46,51]⟩
abbrev Pr:=ByteArray×ByteArray
def parts (s:Sb):List Pr:=(o1,word s.k) :: ((if s.sp=e0 then [] else [(o2,s.sp)])++[(o3,s.nm)])
def firstOf (o:ByteArray):List Pr→ByteArray
 |[]=>e0
 |p :: r=>if p.1=o then p.2 else firstOf o r
def kindOf (w:ByteArray):Int:=if w=word 1 then 1 else if w=word 2 then 2 else if w=word 3 then 3 else if w=word 4 then 4 else if w=word 5 then 5 else 0
def s0 (l:List Pr):Sb:=⟨kindOf (firstOf o1 l),firstOf o2 l,firstOf o3 l⟩
theorem strL_e0:strL e0=[]:=by decide +kernel
theorem label_ne {s:ByteArray} (h:Pt.label (strL s)=true):s≠e0:=by
 intro e
 rw[e,strL_e0] at h
 exact absurd h (by decide)
theorem label_no {l:List Nat} (h:Pt.label l=true):∀ x∈l,x≠47∧x≠58:=by
 intro x hx
 unfold Pt.label at h
 simp only[Bool.and_eq_true,List.all_eq_true] at h
 have:=h.2.2.2 x hx
 unfold Pt.okc at this
 simp at this
 omega
theorem right_facts {s:Sb} (h:right s=true):(1≤s.k∧s.k≤5)∧Pt.label (strL s.nm)=true∧(s.k=2→Pt.label (strL s.sp)=true)∧(s.k≠2→s.sp=e0)∧(s.sp=e0↔s.k≠2):=by
 unfold right at h
 simp only[Bool.and_eq_true,decide_eq_true_eq] at h
 obtain ⟨h1,h2,h3⟩:=h
 have a1:s.k=2→Pt.label (strL s.sp)=true:=fun h=>by rwa [if_pos h] at h3
 have a2:s.k≠2→s.sp=e0:=fun h=>by
  rw[if_neg h,decide_eq_true_eq] at h3
  exact h3
 exact ⟨h1,h2,a1,a2,fun h h'=>label_ne (a1 h') h,a2⟩
theorem kind_word {k:Int} (h:1≤k∧k≤5):kindOf (word k)=k:=by
 rcases (show k=1∨k=2∨k=3∨k=4∨k=5 by omega) with rfl|rfl|rfl|rfl|rfl <;> decide +kernel
theorem kind_le (w:ByteArray):0≤kindOf w∧kindOf w≤5:=by
 unfold kindOf
 repeat' split
 all_goals omega
theorem o12:o1≠o2:=by decide +kernel
theorem o13:o1≠o3:=by decide +kernel
theorem o23:o2≠o3:=by decide +kernel
theorem s0_parts {s:Sb} (h:right s=true):s0 (parts s)=s:=by
 obtain ⟨h1,_,_,_,_⟩:=right_facts h
 obtain ⟨k,sp,nm⟩:=s
 have f1:firstOf o1 (parts ⟨k,sp,nm⟩)=word k:=by unfold parts firstOf;rw[if_pos rfl]
 have f2:firstOf o2 (parts ⟨k,sp,nm⟩)=sp:=by
  unfold parts
  by_cases e:sp=e0
  ·rw[if_pos e,List.nil_append,firstOf,if_neg o12,firstOf,if_neg (fun h=>o23 h.symm),firstOf,e]
  ·rw[if_neg e,List.cons_append,List.nil_append,firstOf,if_neg o12,firstOf,if_pos rfl]
 have f3:firstOf o3 (parts ⟨k,sp,nm⟩)=nm:=by
  unfold parts
  by_cases e:sp=e0
  ·rw[if_pos e,List.nil_append,firstOf,if_neg o13,firstOf,if_pos rfl]
  ·rw[if_neg e,List.cons_append,List.nil_append,firstOf,if_neg o13,firstOf,if_neg o23,firstOf,if_pos rfl]
 unfold s0
 rw[f1,f2,f3,kind_word h1]
def cutN (c:Nat):List Nat→List Nat×List Nat×Bool
 |[]=>([],[],false)
 |x :: r=>if x=c then ([],r,true) else (x :: (cutN c r).1,(cutN c r).2.1,(cutN c r).2.2)
theorem cutN_hit {c:Nat} {b:List Nat}:∀ {a:List Nat},(∀ x∈a,x≠c)→cutN c (a++c :: b)=(a,b,true)
 |[],_=>by rw[List.nil_append,cutN,if_pos rfl]
 |x :: r,h=>by
  rw[List.cons_append,cutN,if_neg (h x (by simp)),cutN_hit (fun y hy=>h y (by simp[hy]))]
theorem cutN_spec {c:Nat}:∀ (l:List Nat),(cutN c l).2.2=true∧l=(cutN c l).1++c :: (cutN c l).2.1∨(cutN c l).2.2=false∧(cutN c l).1=l∧(cutN c l).2.1=[]
 |[]=>.inr ⟨rfl,rfl,rfl⟩
 |x :: r=>by
  rw[cutN]
  by_cases e:x=c
  ·rw[if_pos e,e];exact .inl ⟨rfl,rfl⟩
  ·rw[if_neg e]
   rcases cutN_spec (c:=c) r with ⟨h1,h2⟩|⟨h1,h2,h3⟩
   ·exact .inl ⟨h1,by simp only[List.cons_append];rw[←h2]⟩
   ·exact .inr ⟨h1,by simp only;rw[h2],h3⟩
theorem cutN_lt {c:Nat} {l:List Nat} (h:∀ x∈l,x<256):(∀ x∈(cutN c l).1,x<256)∧∀ x∈(cutN c l).2.1,x<256:=by
 rcases cutN_spec (c:=c) l with ⟨_,h2⟩|⟨_,h2,h3⟩
 ·constructor
  ·intro x hx;exact h x (by rw[h2];simp[hx])
  ·intro x hx;exact h x (by rw[h2];simp[hx])
 ·rw[h2,h3];exact ⟨h,fun x hx=>absurd hx (by simp)⟩
theorem strL_append (a b:ByteArray):strL (a++b)=strL a++strL b:=by
 unfold strL
 rw[ByteArray.data_append,Array.toList_append,List.map_append]
theorem strL_text (s:Sb):strL (text s)=strL (word s.k)++58 :: (if s.sp=e0 then strL s.nm else strL s.sp++47 :: strL s.nm):=by
 have h1:strL ⟨#[58]⟩=[58]:=by decide +kernel
 have h2:strL ⟨#[47]⟩=[47]:=by decide +kernel
 unfold text
 by_cases e:s.sp=e0
 ·have e':s.sp=⟨#[]⟩:=e
  rw[if_pos e',if_pos e,strL_append,strL_append,h1]
  simp
 ·have e':¬ s.sp=⟨#[]⟩:=e
  rw[if_neg e',if_neg e,strL_append,strL_append,strL_append,strL_append,h1,h2]
  simp
theorem word_no {k:Int}:∀ x∈strL (word k),x≠58:=by
 unfold word
 repeat' split
 all_goals decide +kernel
def p0 (t:ByteArray):Sb :=
 if kindOf (strOf (cutN 58 (strL t)).1)=2 then ⟨2,strOf (cutN 47 (cutN 58 (strL t)).2.1).1,strOf (cutN 47 (cutN 58 (strL t)).2.1).2.1⟩
 else ⟨kindOf (strOf (cutN 58 (strL t)).1),e0,strOf (cutN 58 (strL t)).2.1⟩
theorem p0_text {s:Sb} (h:right s=true):p0 (text s)=s:=by
 obtain ⟨h1,h2,h3,h4,h5⟩:=right_facts h
 obtain ⟨k,sp,nm⟩:=s
 simp only at h1 h2 h3 h4 h5
 unfold p0
 rw[strL_text,cutN_hit word_no]
 simp only
 rw[strOf_strL,kind_word h1]
 by_cases e:k=2
 ·have hs:¬ sp=e0:=fun h=>h5.1 h e
  rw[if_pos e,if_neg hs,cutN_hit (fun x hx=>(label_no (h3 e) x hx).1)]
  simp only
  rw[strOf_strL,strOf_strL,e]
 ·rw[if_neg e,if_pos (h4 e),strOf_strL,h4 e]
end Na
end Go.Proofs.YtijkaknggdaajaaGreatDoor
