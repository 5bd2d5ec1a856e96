import Derived.Test.YtijkaknggdaajaaGreatDoorZw03
import Derived.Test.YtijkaknggdaajaaGreatDoorZw06
import Derived.Laws.Cover1
import Derived.Shelf.Strings.Search2
set_option linter.unusedVariables false
set_option linter.unusedSimpArgs false
set_option maxRecDepth 100000
set_option maxHeartbeats 16000000
namespace Go.Proofs.YtijkaknggdaajaaGreatDoor
open Go.Proofs.Tryz
open Lib (hid)
open Go.RowKit
def Words (w:World):Prop:=∀ k:Nat,k<6->w.cell? ⟨1,k,none⟩=some (.string (Na.word k))
theorem Words.grown {w w':World} (h:Words w) (hg:w.grownBy w' none):Words w':=fun k hk =>
 (World.cell?_of_block (hg.block _ (World.block_lt_of_cell? w _ (h k hk)) (by simp))).trans (h k hk)
theorem zEy (s:ByteArray):s.toList.isEmpty=decide (s=⟨#[]⟩):=by
 rw[Bool.eq_iff_iff,List.isEmpty_iff,decide_eq_true_eq];exact⟨fun h=>Na.toList_inj (h.trans (by decide +kernel)),fun h=>by rw[h];decide +kernel⟩
theorem zDo (s:Na.Sb) (h1:s.sp.size<=2000) (h2:s.nm.size<=2000) (w:World):Calls prog 11 #[Na.val s] w fun e w'=>e=.returned (.bool (Na.right s))/\w.grownBy w' none:=by
 obtain⟨k,sp,nm⟩:=s;have HL1:=hid (fun W=>zFi W sp W h1 (zAa _ _));have HL2:=hid (fun W=>zFi W nm W h2 (zAa _ _));have he:=zEy sp;unfold Na.val Na.right;simp only;generalize Pt.label (strL nm)=ln at *;generalize Pt.label (strL sp)=ls at *;clear h1 h2;generalize hd:decide (sp=⟨#[]⟩)=ds at *;clear hd;by_cases k1:k<1
 ·rw[decide_eq_false (p:=1<=k/\k<=5) (by omega),Bool.false_and];clear he;go_enter func11,ntmps11
  go_wp2
  go_ret
  exact⟨rfl,zAc (zAa _ _) _⟩
 by_cases k5:5<k
 ·rw[decide_eq_false (p:=1<=k/\k<=5) (by omega),Bool.false_and];clear he;go_enter func11,ntmps11
  go_wp2
  go_ret
  exact⟨rfl,zAc (zAa _ _) _⟩
 rw[decide_eq_true (p:=1<=k/\k<=5) (by omega),Bool.true_and];cases ln with
 |false =>
  rw[Bool.false_and];clear he;go_enter func11,ntmps11
  go_wp2_with (go_at_call 43;refine(HL2.out _).mono ?_;rintro e w2 ⟨hg2,rfl⟩;have HG2:=hid (zAb (zAc (zAa _ _) _) hg2);clear hg2)
  go_ret
  exact⟨rfl,HG2.out⟩
 |true =>
  rw[Bool.true_and];by_cases k2:k=2
  ·subst k2;rw[if_pos rfl];clear he;have HC:Hid (∀ W,(w.alloc (.cells #[.int .i64 2,.string sp,.string nm] 23)).grownBy W none->W.cell? ⟨w.heap.size,0,none⟩=some (.int .i64 2)/\W.cell? ⟨w.heap.size,1,none⟩=some (.string sp)):=hid (fun W hg=>by
    have hb:=hg.block w.heap.size (by rw[zAe];omega) (by simp);exact⟨(World.cell?_of_block hb).trans (cell_blk (alloc_at w _) 0 rfl),(World.cell?_of_block hb).trans (cell_blk (alloc_at w _) 1 rfl)⟩)
   go_enter func11,ntmps11
   go_wp2_with (first
    |(go_at_call 43;with_reducible refine(HL2.out _).mono ?_;rintro e w2 ⟨hg2,rfl⟩;obtain⟨c0,c1⟩:=HC.out _ hg2;have HG2:=hid (zAb (zAc (zAa _ _) _) hg2);clear hg2)
    |(go_at_call 43;with_reducible refine(HL1.out _).mono ?_;rintro e w3 ⟨hg3,rfl⟩;have HG3:=hid (zAb HG2.out hg3);clear hg3))
   go_ret
   exact⟨rfl,HG3.out⟩
  ·rw[if_neg k2];have hk2:(k==2)=false:=by simpa using k2
   have HC:Hid (∀ W,(w.alloc (.cells #[.int .i64 k,.string sp,.string nm] 23)).grownBy W none->W.cell? ⟨w.heap.size,0,none⟩=some (.int .i64 k)/\W.cell? ⟨w.heap.size,1,none⟩=some (.string sp)):=hid (fun W hg=>by
    have hb:=hg.block w.heap.size (by rw[zAe];omega) (by simp);exact⟨(World.cell?_of_block hb).trans (cell_blk (alloc_at w _) 0 rfl),(World.cell?_of_block hb).trans (cell_blk (alloc_at w _) 1 rfl)⟩)
   clear k2;go_enter func11,ntmps11
   go_wp2_with (go_at_call 43;refine(HL2.out _).mono ?_;rintro e w2 ⟨hg2,rfl⟩;obtain⟨c0,c1⟩:=HC.out _ hg2;have HG2:=hid (zAb (zAc (zAa _ _) _) hg2);clear hg2)
   go_ret
   exact⟨rfl,HG2.out⟩
def Na.text (s:Na.Sb):ByteArray:=Na.word s.k++⟨#[58]⟩++(if s.sp=⟨#[]⟩then s.nm else s.sp++⟨#[47]⟩++s.nm)
theorem zDh (k:Int):(Na.word k).size<=8:=by
 unfold Na.word
 repeat' split
 all_goals decide
theorem zK6 (s:Na.Sb) (h1:s.sp.size<=2000) (h2:s.nm.size<=2000) (hr:Na.right s=true) (w:World) (hW:Words w):Calls prog 9 #[Na.val s] w fun e w'=>e=.returned (.tuple #[.string (Na.text s),.nilIface])/\w.grownBy w' none:=by
 have HR:=hid (fun W=>zDo s h1 h2 W);have hk:1<=s.k/\s.k<=5:=by
  unfold Na.right at hr;rw[Bool.and_eq_true,decide_eq_true_eq]at hr;exact hr.1
 rw[hr]at HR;obtain⟨R,hR⟩:∃ R,R=Na.text s:=⟨_,rfl⟩
 rw[<-hR];unfold Na.text at hR;obtain⟨k,sp,nm⟩:=s;simp only at *;obtain⟨n,rfl⟩:∃ n:Nat,k=n:=⟨k.toNat,by omega⟩
 have hws:=zDh n;have he:=zEy sp;unfold Na.val at *;generalize hwd:Na.word (n:Int)=wd at *;have HC:Hid (∀ W,(w.alloc (.cells #[.int .i64 n,.string sp,.string nm] 23)).grownBy W none->W.cell? ⟨w.heap.size,0,none⟩=some (.int .i64 n)/\W.cell? ⟨w.heap.size,1,none⟩=some (.string sp)/\W.cell? ⟨w.heap.size,2,none⟩=some (.string nm)/\W.cell? ⟨1,n,none⟩=some (.string wd)):=hid (fun W hg=>by
  have hb:=hg.block w.heap.size (by rw[zAe];omega) (by simp);refine⟨(World.cell?_of_block hb).trans (cell_blk (alloc_at w _) 0 rfl),(World.cell?_of_block hb).trans (cell_blk (alloc_at w _) 1 rfl),(World.cell?_of_block hb).trans (cell_blk (alloc_at w _) 2 rfl),?_⟩;rw[<-hwd];exact(hW.grown (zAc (zAa _ _) _)).grown hg n (by omega))
 have k0:(0:Int)<=(n:Int):=by omega
 have k6:(n:Int)<6:=by omega
 have z0:(wd.size:Int)<=8388608:=by omega
 have z1:(nm.size:Int)<=8388608:=by omega
 have z2:(sp.size:Int)<=8388608:=by omega
 have z3:wd.size+1<=9223372036854775807:=by omega
 have z4:wd.size+1+nm.size<=9223372036854775807:=by omega
 by_cases hs:sp=⟨#[]⟩
 ·rw[if_pos hs]at hR;rw[decide_eq_true hs]at he;have HRs:=hid hR;clear hR hs hr hk hW h1 h2 hwd hws;go_enter func9,ntmps9
  go_wp2_with (go_at_call 11;refine(HR.out _).mono ?_;rintro e w2 ⟨rfl,hg2⟩;obtain⟨c0,c1,c2,c3⟩:=HC.out _ (zAb (zAa _ _) hg2);have HG2:=hid (zAb (zAc (zAa _ _) _) hg2);clear hg2)
  go_ret2
  exact⟨by rw[HRs.out];rfl,HG2.out⟩
 ·rw[if_neg hs]at hR;rw[decide_eq_false hs]at he;have HRs:=hid hR;have z5:sp.size+1<=9223372036854775807:=by omega
  have z6:sp.size+1+nm.size<=9223372036854775807:=by omega
  have z7:(sp++⟨#[47]⟩:ByteArray).size=sp.size+1:=by rw[ByteArray.size_append];rfl
  have z8:(sp++⟨#[47]⟩++nm:ByteArray).size=sp.size+1+nm.size:=by rw[ByteArray.size_append,ByteArray.size_append];rfl
  have z9:(wd++⟨#[58]⟩:ByteArray).size=wd.size+1:=by rw[ByteArray.size_append];rfl
  clear hR hs hr hk hW hwd;go_enter func9,ntmps9
  go_wp2_with (go_at_call 11;refine(HR.out _).mono ?_;rintro e w2 ⟨rfl,hg2⟩;obtain⟨c0,c1,c2,c3⟩:=HC.out _ (zAb (zAa _ _) hg2);have HG2:=hid (zAb (zAc (zAa _ _) _) hg2);clear hg2)
  go_ret2
  exact⟨by rw[HRs.out];rfl,HG2.out⟩
theorem zEe:Na.right ⟨2,⟨#[115,104,111,112]⟩,⟨#[119,101,98]⟩⟩=true:=by decide +kernel
theorem zEP:Na.text ⟨2,⟨#[115,104,111,112]⟩,⟨#[119,101,98]⟩⟩=⟨#[119,111,114,107,108,111,97,100,58,115,104,111,112,47,119,101,98]⟩:=by decide +kernel
theorem zD9 (w:World) (hW:Words w):Calls prog 6 #[] w fun e w'=>e=.returned (.bool true)/\w.grownBy w' none:=by
 have HT:=hid (zK6 ⟨2,⟨#[115,104,111,112]⟩,⟨#[119,101,98]⟩⟩ (by decide) (by decide) zEe w hW);rw[zEP]at HT;unfold Na.val at HT;go_enter func6,ntmps6
 go_wp2_with (go_at_call 9;refine HT.out.mono ?_;rintro e w2 ⟨rfl,hg2⟩;have HG2:=hid hg2;clear hg2)
 go_ret
 exact⟨retB7 (by decide +kernel),HG2.out⟩
def Na.lng (s:Na.Sb):Bool:=decide (200<s.sp.size)||decide (200<s.nm.size)
theorem zJa (s:Na.Sb) (w:World):Calls prog 7 #[Na.val s] w fun e w'=>e=.returned (.bool (Na.lng s))/\w.grownBy w' none:=by
 obtain⟨k,sp,nm⟩:=s;unfold Na.lng Na.val;simp only;go_enter func7,ntmps7
 go_wp2
 all_goals
  go_ret
  exact⟨retB7 (by rw[Bool.eq_iff_iff];simp;omega),zAc (zAa _ _) _⟩
namespace Na
def e0:ByteArray:=⟨#[]⟩
def o1:ByteArray:=⟨#[49,46,51,46,57,57,57,57,46,49,46,49]⟩
def o2:ByteArray:=⟨#[49,46,51,46,57,57,57,57,46,49,46,50]⟩
def o3:ByteArray:=⟨#[49,46,51,46,57,57,57,57,46,49,46,51]⟩
abbrev Pr:=ByteArray×ByteArray
def parts (s:Sb):List Pr:=(o1,word s.k) ::((if s.sp=e0 then []else [(o2,s.sp)])++[(o3,s.nm)])
def firstOf (o:ByteArray):List Pr->ByteArray
 |[]=>e0
 |p :: r=>if p.1=o then p.2 else firstOf o r
def kindOf (w:ByteArray):Int:=if w=word 1 then 1 else if w=word 2 then 2 else if w=word 3 then 3 else if w=word 4 then 4 else if w=word 5 then 5 else 0
def s0 (l:List Pr):Sb:=⟨kindOf (firstOf o1 l),firstOf o2 l,firstOf o3 l⟩
def cand (k:Int) (l:List Pr):Sb:=⟨k,if k=2/\1<l.length then(l.getD 1 (e0,e0)).2 else e0,if 0<l.length then(l.getD (l.length-1) (e0,e0)).2 else e0⟩
theorem strL_e0:strL e0=[]:=by decide +kernel
theorem label_ne {s:ByteArray} (h:Pt.label (strL s)=true):s≠e0:=by
 intro e;rw[e,strL_e0]at h;exact absurd h (by decide)
theorem right_facts {s:Sb} (h:right s=true):(1<=s.k/\s.k<=5)/\Pt.label (strL s.nm)=true/\(s.k=2->Pt.label (strL s.sp)=true)/\(s.k≠2->s.sp=e0)/\(s.sp=e0↔s.k≠2):=by
 unfold right at h;simp only[Bool.and_eq_true,decide_eq_true_eq]at h;obtain⟨h1,h2,h3⟩:=h;have a1:s.k=2->Pt.label (strL s.sp)=true:=fun h=>by rwa [if_pos h]at h3
 have a2:s.k≠2->s.sp=e0:=fun h=>by
  rw[if_neg h,decide_eq_true_eq]at h3;exact h3
 exact⟨h1,h2,a1,a2,fun h h'=>label_ne (a1 h') h,a2⟩
theorem kind_word {k:Int} (h:1<=k/\k<=5):kindOf (word k)=k:=by
 rcases(show k=1∨k=2∨k=3∨k=4∨k=5 by omega)with rfl|rfl|rfl|rfl|rfl <;> decide +kernel
theorem o12:o1≠o2:=by decide +kernel
theorem o13:o1≠o3:=by decide +kernel
theorem o23:o2≠o3:=by decide +kernel
theorem s0_parts {s:Sb} (h:right s=true):s0 (parts s)=s:=by
 obtain⟨h1,_,_,_,_⟩:=right_facts h;obtain⟨k,sp,nm⟩:=s;have f1:firstOf o1 (parts ⟨k,sp,nm⟩)=word k:=by unfold parts firstOf;rw[if_pos rfl]
 have f2:firstOf o2 (parts ⟨k,sp,nm⟩)=sp:=by
  unfold parts;by_cases e:sp=e0
  ·rw[if_pos e,List.nil_append,firstOf,if_neg o12,firstOf,if_neg (fun h=>o23 h.symm),firstOf,e]
  ·rw[if_neg e,List.cons_append,List.nil_append,firstOf,if_neg o12,firstOf,if_pos rfl]
 have f3:firstOf o3 (parts ⟨k,sp,nm⟩)=nm:=by
  unfold parts;by_cases e:sp=e0
  ·rw[if_pos e,List.nil_append,firstOf,if_neg o13,firstOf,if_pos rfl]
  ·rw[if_neg e,List.cons_append,List.nil_append,firstOf,if_neg o13,firstOf,if_neg o23,firstOf,if_pos rfl]
 unfold s0;rw[f1,f2,f3,kind_word h1]
theorem cand_parts {s:Sb} (h:right s=true):cand s.k (parts s)=s:=by
 obtain⟨_,_,_,h4,h5⟩:=right_facts h;obtain⟨k,sp,nm⟩:=s;simp only at h4 h5 ⊢;unfold cand parts;by_cases e:sp=e0
 ·have hk:=h5.1 e;rw[if_neg (fun h=>hk h.1),if_pos (by simp[e]),e];simp
 ·have hk:k=2:=Decidable.byContradiction (fun h=>e (h4 h));simp[e,hk]
end Na
def wordsL:List Value:=[.string (Na.word 0),.string (Na.word 1),.string (Na.word 2),.string (Na.word 3),.string (Na.word 4),.string (Na.word 5)]
theorem Words.range {w:World} (h:Words w):w.rangeAt 1 0 wordsL:=fun j v hj=>by
 have hj6:j<6:=(List.getElem?_eq_some_iff.1 hj).1;rw[Nat.zero_add,h j hj6]
 match j,hj6 with
 |0,_=>exact hj
 |1,_=>exact hj
 |2,_=>exact hj
 |3,_=>exact hj
 |4,_=>exact hj
 |5,_=>exact hj
theorem zHM (s:ByteArray) (w:World) (hW:Words w):Calls prog 50 #[.string s] w fun e w'=>e=.returned (.int .i64 (Na.kindOf s))/\w'=w:=by
 have HI:(prog.info? 86).map (·.size)=some wordsL.length:=by kernel_rfl
 have HRg:=hid hW.range;obtain⟨R,hR⟩:∃ R,R=Na.kindOf s:=⟨_,rfl⟩
 rw[<-hR];have H1:Hid (∀ k:Nat,k<6->(∀ j:Nat,j<k->Na.word j≠s)->Na.word k=s->R=k):=hid (fun k hk hj h=>by
  have h':=h.symm;rw[hR];unfold Na.kindOf
  match k,hk with
  |0,_=>subst h';decide +kernel
  |1,_=>subst h';decide +kernel
  |2,_=>subst h';decide +kernel
  |3,_=>subst h';decide +kernel
  |4,_=>subst h';decide +kernel
  |5,_=>subst h';decide +kernel)
 have H2:Hid ((∀ j:Nat,j<6->Na.word j≠s)->R=0):=hid (fun hj=>by
  rw[hR];unfold Na.kindOf;rw[if_neg (fun e=>hj 1 (by decide) e.symm),if_neg (fun e=>hj 2 (by decide) e.symm),if_neg (fun e=>hj 3 (by decide) e.symm),if_neg (fun e=>hj 4 (by decide) e.symm),if_neg (fun e=>hj 5 (by decide) e.symm)])
 have HIx:Hid (∀ (k:Nat) (W:World),k<6->(Instr.index 86 (.agg wordsL.toArray) (.int .i64 (k:Int))).run prog W=.ok (.string (Na.word k)) W):=hid (fun k W hk=>by
  have h6:((k:Int)<0∨(6:Int)<=k)=False:=by simp;omega
  match k,hk with
  |0,_=>simp[Instr.index,run_underlying underlying86,asIntOf,sizeOf9,go_sem,wordsL]
  |1,_=>simp[Instr.index,run_underlying underlying86,asIntOf,sizeOf9,go_sem,wordsL]
  |2,_=>simp[Instr.index,run_underlying underlying86,asIntOf,sizeOf9,go_sem,wordsL]
  |3,_=>simp[Instr.index,run_underlying underlying86,asIntOf,sizeOf9,go_sem,wordsL]
  |4,_=>simp[Instr.index,run_underlying underlying86,asIntOf,sizeOf9,go_sem,wordsL]
  |5,_=>simp[Instr.index,run_underlying underlying86,asIntOf,sizeOf9,go_sem,wordsL])
 generalize wordsL=WL at *;clear hR hW;go_enter func50,ntmps50
 go_wp2_with (refine wpList_load_mid (by rfl) 86 (.global 1) (by rfl) 1 0 (by rfl) WL _ HRg.out underlying86 (by rfl) HI ?_)
 go_loopw [6,3,4] (fun i _ _ wr=>∃ k:Nat,k<=6/\i=.int .i64 (k:Int)/\wr=w/\∀ j:Nat,j<k->Na.word j≠s) (fun i _ _ _=>6-(intOf i).toNat)
 case atStart=>exact⟨0,by omega,rfl,rfl,fun j hj=>absurd hj (Nat.not_lt_zero _)⟩
 case round =>
  obtain⟨k,hk,rfl,rfl,h0⟩:=hrel;have H0:=hid h0;clear h0;by_cases hk6:k<6
  ·have ix:=HIx.out k wr hk6;have HRk:=hid (H1.out k hk6 H0.out);by_cases he:Na.word k=s
   ·have hRk:Hid (R=k):=hid (HRk.out he);generalize Na.word (k:Int)=wk at *;subst he;go_wp2
    go_ret
    exact⟨by rw[hRk.out];rfl,rfl⟩
   ·have HN:Hid (∀ j:Nat,j<k+1->Na.word j≠s):=hid (fun j hj=>by
     rcases Nat.lt_or_ge j k with h|h
     ·exact H0.out j h
     ·obtain rfl:j=k:=by omega
      exact he)
    have hb:((Na.word k).toList==s.toList)=false:=by
     rw[beq_eq_false_iff_ne];exact fun h=>he (Na.toList_inj h)
    generalize Na.word (k:Int)=wk at *;clear he;go_wp2
    go_roundw
    case rel=>exact⟨k+1,by omega,by go_num,trivial,HN.out⟩
    case measure=>simp[intOf];omega
  ·obtain rfl:k=6:=by omega
   have HR0:Hid (R=0):=hid (H2.out H0.out);go_wp2
   go_ret
   exact⟨by rw[HR0.out];rfl,rfl⟩
theorem zGz (k:Int) (hk : -9223372036854775808<=k/\k<=9223372036854775807) (w:World):Calls prog 44 #[.int .i64 k] w fun e w'=>e=.returned (.string (Na.word k))/\w.grownBy w' none:=by
 by_cases h1:k<1
 ·rw[show Na.word k=Na.e0 by unfold Na.word;rw[if_neg (by omega),if_neg (by omega),if_neg (by omega),if_neg (by omega),if_neg (by omega)];rfl];go_enter func44,ntmps44
  go_wp2
  go_ret
  exact⟨rfl,zAa _ _⟩
 by_cases h5:5<k
 ·rw[show Na.word k=Na.e0 by unfold Na.word;rw[if_neg (by omega),if_neg (by omega),if_neg (by omega),if_neg (by omega),if_neg (by omega)];rfl];go_enter func44,ntmps44
  go_wp2
  go_ret
  exact⟨rfl,zAa _ _⟩
 rcases(show k=1∨k=2∨k=3∨k=4∨k=5 by omega)with rfl|rfl|rfl|rfl|rfl
 all_goals
  clear hk h1 h5;go_enter func44,ntmps44
  go_wp2
  go_ret
  exact⟨rfl,zAc (zAa _ _) _⟩
theorem zAr {w w':World} {b:Nat} {o:Obj} (h:w.heap[b]?=some o) (hg:w.grownBy w' none):w'.heap[b]?=some o:=(hg.block b (zAi h) (by simp)).trans h
structure NameErr (w:World) (A:Nat->Addr):Prop where
 name:w.cell? ⟨0,0,none⟩=some (errV A 9)
theorem NameErr.grown {w w':World} {A:Nat->Addr} (h:NameErr w A) (hg:w.grownBy w' none):NameErr w' A :=
 ⟨(World.cell?_of_block (hg.block _ (World.block_lt_of_cell? w _ h.name) (by simp))).trans h.name⟩
def i64 (k:Int):Prop:=-9223372036854775808<=k/\k<=9223372036854775807
theorem zJT (k:Int):(Na.word k).toList.isEmpty=!decide (1<=k/\k<=5):=by
 by_cases h:1<=k/\k<=5
 ·rw[decide_eq_true h];rcases(show k=1∨k=2∨k=3∨k=4∨k=5 by omega)with rfl|rfl|rfl|rfl|rfl <;> decide +kernel
 ·rw[decide_eq_false h,show Na.word k=Na.e0 by unfold Na.word;rw[if_neg (by omega),if_neg (by omega),if_neg (by omega),if_neg (by omega),if_neg (by omega)];rfl];decide +kernel
theorem zBP (s:Na.Sb) (hk:i64 s.k) (h1:s.sp.size<=1000000) (h2:s.nm.size<=1000000) (w:World):Calls prog 12 #[Na.val s] w fun e w'=>e=.returned (.bool (Na.right s))/\w.grownBy w' none:=by
 obtain⟨k,sp,nm⟩:=s;have HWd:=hid (fun W=>zGz k hk W);have HL1:=hid (fun W=>zCW sp h1 W);have HL2:=hid (fun W=>zCW nm h2 W);have he:=zEy sp;have hwe:=zJT k;unfold Na.val Na.right;simp only;generalize Pt.label (strL nm)=ln at *;generalize Pt.label (strL sp)=ls at *;generalize hd:decide (sp=⟨#[]⟩)=ds at *;generalize Na.word k=wk at *;clear h1 h2 hd hk;have HC:Hid (∀ W,(w.alloc (.cells #[.int .i64 k,.string sp,.string nm] 23)).grownBy W none->W.cell? ⟨w.heap.size,0,none⟩=some (.int .i64 k)/\W.cell? ⟨w.heap.size,1,none⟩=some (.string sp)/\W.cell? ⟨w.heap.size,2,none⟩=some (.string nm)):=hid (fun W hg=>by
  have hb:=hg.block w.heap.size (by rw[zAe];omega) (by simp);exact⟨(World.cell?_of_block hb).trans (cell_blk (alloc_at w _) 0 rfl),(World.cell?_of_block hb).trans (cell_blk (alloc_at w _) 1 rfl),(World.cell?_of_block hb).trans (cell_blk (alloc_at w _) 2 rfl)⟩)
 generalize hq:decide (1<=k/\k<=5)=q at *;clear hq;by_cases k2:k=2
 ·subst k2;rw[if_pos rfl];clear he;cases q <;> cases ln
  all_goals
   go_enter func12,ntmps12
   go_wp2_with (first
    |(go_at_call 44;refine(HWd.out _).mono ?_;rintro e w2 ⟨rfl,hg2⟩;obtain⟨c0,c1,c2⟩:=HC.out _ hg2;have HG:=hid (zAb (zAc (zAa _ _) _) hg2);clear hg2)
    |(go_at_call 45;with_reducible refine(HL2.out _).mono ?_;rintro e w3 ⟨rfl,rfl⟩)
    |(go_at_call 45;with_reducible refine(HL1.out _).mono ?_;rintro e w3 ⟨rfl,rfl⟩))
   go_ret
   exact⟨rfl,HG.out⟩
 ·rw[if_neg k2];have hk2:(k==2)=false:=by simpa using k2
  clear k2;cases q <;> cases ln
  all_goals
   go_enter func12,ntmps12
   go_wp2_with (first
    |(go_at_call 44;refine(HWd.out _).mono ?_;rintro e w2 ⟨rfl,hg2⟩;obtain⟨c0,c1,c2⟩:=HC.out _ hg2;have HG:=hid (zAb (zAc (zAa _ _) _) hg2);clear hg2)
    |(go_at_call 45;with_reducible refine(HL2.out _).mono ?_;rintro e w3 ⟨rfl,rfl⟩))
   go_ret
   exact⟨rfl,HG.out⟩
def cellsP (l:List Na.Pr):List Value:=(l.map fun p=>[Value.string p.1,Value.string p.2]).flatten
theorem zGt (p:Na.Pr) (l:List Na.Pr):cellsP (p :: l)=.string p.1 :: .string p.2 :: cellsP l:=rfl
theorem zCB (a b:List Na.Pr):cellsP (a++b)=cellsP a++cellsP b:=by simp[cellsP]
theorem zFw:∀ (l:List Na.Pr) (i:Nat),i<l.length->(cellsP l)[i*2]?=some (.string (l.getD i (Na.e0,Na.e0)).1)/\(cellsP l)[i*2+1]?=some (.string (l.getD i (Na.e0,Na.e0)).2)
 |[],i,h=>absurd h (Nat.not_lt_zero _)
 |p :: r,0,_=>⟨rfl,rfl⟩
 |p :: r,i+1,h=>by
  have:=zFw r i (by simpa using h);rw[zGt,show(i+1)*2=i*2+1+1 by omega,show i*2+1+1+1=(i*2+1)+1+1 by omega];simpa using this
def Prts (w:World) (v:Value) (l:List Na.Pr):Prop :=
 ∃ (a:Option Addr) (sb so c:Nat),v=.slice a l.length c/\(0<l.length->a=some ⟨sb,so,none⟩/\sb<w.heap.size)/\∀ i,i<l.length->w.cell? ⟨sb,so+i*2,none⟩=some (.string (l.getD i (Na.e0,Na.e0)).1)/\w.cell? ⟨sb,so+i*2+1,none⟩=some (.string (l.getD i (Na.e0,Na.e0)).2)
theorem Prts.grown {w w':World} {v:Value} {l:List Na.Pr} (h:Prts w v l) (hg:w.grownBy w' none):Prts w' v l:=by
 obtain⟨a,sb,so,c,h1,h3,h4⟩:=h;refine⟨a,sb,so,c,h1,fun hp=>⟨(h3 hp).1,Nat.lt_of_lt_of_le (h3 hp).2 hg.size⟩,fun j hj=>?_⟩;have hb:=hg.block sb (h3 (by omega)).2 (by simp);exact⟨(World.cell?_of_block hb).trans (h4 j hj).1,(World.cell?_of_block hb).trans (h4 j hj).2⟩
theorem Prts.own {w:World} {base:Nat} {v:Value} {n:Nat} {l:List Na.Pr} (h:w.ownsRow base 88 2 v n (cellsP l)) (hn:n=l.length):Prts w v l:=by
 subst hn;obtain⟨a,g,c,rfl,_,_,_,_,h2⟩:=zAp h;refine⟨a,g,0,c,rfl,fun hp=>⟨(h2 hp).1,(h2 hp).2.1⟩,fun i hi=>?_⟩;obtain⟨_,_,h3,_⟩:=h2 (by omega);obtain⟨k1,k2⟩:=zFw l i hi;rw[Nat.zero_add];exact⟨h3 _ _ k1,h3 _ _ k2⟩
theorem zMv:((prog.info? 88).map (fun i=>(i.zero,i.size,i.bytes)))=some (some (.agg #[.string ⟨#[]⟩,.string ⟨#[]⟩]),2,32):=by kernel_rfl
theorem zIU {w:World} (base:Nat) (hb:base<=w.heap.size) (x y:Value):(w.alloc (.cells #[x,y] 88)).ownsRow base 88 2 (.slice (some ⟨w.heap.size,0,none⟩) 1 1) 1 [x,y] :=
 ⟨rfl,.inr ⟨w.heap.size,1,#[x,y],rfl,hb,alloc_at w _,Nat.le_refl _,by unfold maxLen;omega,rfl,rfl⟩⟩
theorem zGW {w wa w':World} {b base:Nat} {e t:TypeId} {sz n:Nat} {v:Value} {xs:List Value} {cs:Array Value} {fr:Nat×Nat} (h:w.heap[b]?=some (.cells cs t fr)) (hg0:w.grownBy wa none) (hv:wa.ownsRow base e sz v n xs) (he:e≠t) (hg:wa.grownBy w' v.ownBlock):w'.heap[b]?=some (.cells cs t fr):=by
 have ha:=zAr h hg0;rw[hg.block b (zAi ha) (fun e2=>zFc hv ha he e2.symm)];exact ha
theorem zFa (s:Na.Sb) (h1:s.sp.size<=2000) (h2:s.nm.size<=2000) (hr:Na.right s=true) (w:World) (hW:Words w):Calls prog 8 #[Na.val s] w fun e w'=>∃ v,e=.returned (.tuple #[v,.nilIface])/\w.grownBy w' none/\w'.ownsRow w.heap.size 88 2 v (Na.parts s).length (cellsP (Na.parts s)):=by
 have hI:(prog.info? 23).map (·.size)=some 3:=by kernel_rfl
 have HIP:=hid zMv;have HR:=hid (fun W=>zDo s h1 h2 W);have hk:=(Na.right_facts hr).1;rw[hr]at HR;obtain⟨R,hR⟩:∃ R,R=Na.parts s:=⟨_,rfl⟩
 rw[<-hR];unfold Na.parts Na.o1 Na.o2 Na.o3 at hR;obtain⟨k,sp,nm⟩:=s;simp only at *;obtain⟨n,rfl⟩:∃ n:Nat,k=n:=⟨k.toNat,by omega⟩
 have he:=zEy sp;unfold Na.val at *;generalize hwd:Na.word (n:Int)=wd at *;have HC:Hid (∀ W,(w.alloc (.cells #[.int .i64 n,.string sp,.string nm] 23)).grownBy W none->W.heap[w.heap.size]?=some (.cells #[.int .i64 n,.string sp,.string nm] 23 (0,0))/\W.cell? ⟨1,n,none⟩=some (.string wd)):=hid (fun W hg=>by
  refine⟨zAr (alloc_at w _) hg,?_⟩;rw[<-hwd];exact(hW.grown (zAc (zAa _ _) _)).grown hg n (by omega))
 have k0:(0:Int)<=(n:Int):=by omega
 have k6:(n:Int)<6:=by omega
 have HB:=hid (alloc_at w (.cells #[.int .i64 n,.string sp,.string nm] 23));have HOne:=hid (fun(w:World) base hb x y=>zIU (w:=w) base hb x y);by_cases hs:sp=⟨#[]⟩
 ·rw[decide_eq_true hs]at he;rw[if_pos (show sp=Na.e0 from hs)]at hR;have HRs:=hid hR;clear hR hs hr hk hW h1 h2 hwd;go_enter func8,ntmps8
  go_wp2_with (first
   |(refine wpList_load_row (by rfl) 23 (.tmp 1) (by rfl) w.heap.size (by rfl) 23 #[.int .i64 (n:Int),.string sp,.string nm] (0,0) _ HB.out underlying23 rfl hI ?_)
   |(go_at_call 11;refine(HR.out _).mono ?_;rintro e w2 ⟨rfl,hg2⟩;obtain⟨hb,c3⟩:=HC.out _ hg2;have c0:=cell_blk hb 0 rfl;have c1:=cell_blk hb 1 rfl;have c2:=cell_blk hb 2 rfl;have hlt:=zAi hb;have HG2:=hid (zAb (zAc (zAa _ _) _) hg2);clear hg2 hb;have e0:=HOne.out w2 w.heap.size HG2.out.size (.string ⟨#[49,46,51,46,57,57,57,57,46,49,46,49]⟩) (.string wd);have E0:=hid (e0.alloc (.cells #[.string ⟨#[49,46,51,46,57,57,57,57,46,49,46,51]⟩,.string nm] 88));clear e0)
   |(at_builtin;refine zAH (by rfl) (.tmp 24) (.tmp 28) 26 (by rfl) w.heap.size 88 (.agg #[.string ⟨#[]⟩,.string ⟨#[]⟩]) 2 32 underlying26 HIP.out rfl (by decide) (by decide) _ 1 [.string ⟨#[49,46,51,46,57,57,57,57,46,49,46,49]⟩,.string wd] (by rfl) E0.out ⟨_,0,none⟩ 1 _ [.string ⟨#[49,46,51,46,57,57,57,57,46,49,46,51]⟩,.string nm] (by rfl) rfl (by intro j u hj;rw[addr_addO,Nat.zero_add];exact cell_blk (alloc_at2 w2 (.cells #[.string ⟨#[49,46,51,46,57,57,57,57,46,49,46,49]⟩,.string wd] 88) (.cells #[.string ⟨#[49,46,51,46,57,57,57,57,46,49,46,51]⟩,.string nm] 88)) j (by simpa using hj)) (by intro u hu;simp at hu;rcases hu with rfl|rfl <;> rfl) (by omega) (by have:=HG2.out.size;simp only[zAe];omega) ?_;intro v3 w3 ho3 hg3 _;have O3_:=hid ho3;have G3:=hid hg3;clear ho3 hg3))
  go_ret2
  refine⟨_,rfl,zAR (zAc HG2.out _) (HOne.out w2 w.heap.size HG2.out.size (.string ⟨#[49,46,51,46,57,57,57,57,46,49,46,49]⟩) (.string wd)) (Nat.le_refl _) (zAb (World.grownBy_alloc _ _ _) G3.out),?_⟩;rw[HRs.out];exact O3_.out
 ·rw[decide_eq_false hs]at he;rw[if_neg (show ¬ sp=Na.e0 from hs)]at hR;have HRs:=hid hR;clear hR hs hr hk hW h1 h2 hwd;go_enter func8,ntmps8
  go_wp2_with (first
   |(refine wpList_load_row (by rfl) 23 (.tmp 1) (by rfl) w.heap.size (by rfl) 23 #[.int .i64 (n:Int),.string sp,.string nm] (0,0) _ HB.out underlying23 rfl hI ?_)
   |(go_at_call 11;refine(HR.out _).mono ?_;rintro e w2 ⟨rfl,hg2⟩;obtain⟨hb,c3⟩:=HC.out _ hg2;have HB2:=hid hb;have c0:=cell_blk hb 0 rfl;have c1:=cell_blk hb 1 rfl;have c2:=cell_blk hb 2 rfl;have hlt:=zAi hb;have HG2:=hid (zAb (zAc (zAa _ _) _) hg2);clear hg2 hb;have e0:=HOne.out w2 w.heap.size HG2.out.size (.string ⟨#[49,46,51,46,57,57,57,57,46,49,46,49]⟩) (.string wd);have E0:=hid (e0.alloc (.cells #[.string ⟨#[49,46,51,46,57,57,57,57,46,49,46,50]⟩,.string sp] 88));clear e0)
   |(at_builtin;refine zAH (by rfl) (.tmp 18) (.tmp 22) 26 (by rfl) w.heap.size 88 (.agg #[.string ⟨#[]⟩,.string ⟨#[]⟩]) 2 32 underlying26 HIP.out rfl (by decide) (by decide) _ 1 [.string ⟨#[49,46,51,46,57,57,57,57,46,49,46,49]⟩,.string wd] (by rfl) E0.out ⟨_,0,none⟩ 1 _ [.string ⟨#[49,46,51,46,57,57,57,57,46,49,46,50]⟩,.string sp] (by rfl) rfl (by intro j u hj;rw[addr_addO,Nat.zero_add];exact cell_blk (alloc_at2 w2 (.cells #[.string ⟨#[49,46,51,46,57,57,57,57,46,49,46,49]⟩,.string wd] 88) (.cells #[.string ⟨#[49,46,51,46,57,57,57,57,46,49,46,50]⟩,.string sp] 88)) j (by simpa using hj)) (by intro u hu;simp at hu;rcases hu with rfl|rfl <;> rfl) (by omega) (by have:=HG2.out.size;simp only[zAe];omega) ?_;intro v3 w3 ho3 hg3 _;have O3_:=hid ho3;have G3:=hid hg3;clear ho3 hg3;have HB3:=hid (zGW HB2.out (World.grownBy_alloc _ _ none) (HOne.out w2 w.heap.size HG2.out.size (.string ⟨#[49,46,51,46,57,57,57,57,46,49,46,49]⟩) (.string wd)) (by decide) (zAb (World.grownBy_alloc _ _ _) G3.out));have c2:=cell_blk HB3.out 2 rfl;have hlt3:=zAi HB3.out;have E3:=hid (O3_.out.alloc (.cells #[.string ⟨#[49,46,51,46,57,57,57,57,46,49,46,51]⟩,.string nm] 88));have HG3:=hid (zAR (zAc HG2.out _) (HOne.out w2 w.heap.size HG2.out.size (.string ⟨#[49,46,51,46,57,57,57,57,46,49,46,49]⟩) (.string wd)) (Nat.le_refl _) (zAb (World.grownBy_alloc _ _ _) G3.out)))
   |(at_builtin;refine zAH (by rfl) (.tmp 24) (.tmp 28) 26 (by rfl) w.heap.size 88 (.agg #[.string ⟨#[]⟩,.string ⟨#[]⟩]) 2 32 underlying26 HIP.out rfl (by decide) (by decide) _ 2 [.string ⟨#[49,46,51,46,57,57,57,57,46,49,46,49]⟩,.string wd,.string ⟨#[49,46,51,46,57,57,57,57,46,49,46,50]⟩,.string sp] (by rfl) E3.out ⟨_,0,none⟩ 1 _ [.string ⟨#[49,46,51,46,57,57,57,57,46,49,46,51]⟩,.string nm] (by rfl) rfl (by intro j u hj;rw[addr_addO,Nat.zero_add];exact cell_blk (alloc_at w3 (.cells #[.string ⟨#[49,46,51,46,57,57,57,57,46,49,46,51]⟩,.string nm] 88)) j (by simpa using hj)) (by intro u hu;simp at hu;rcases hu with rfl|rfl <;> rfl) (by omega) (by have:=HG3.out.size;simp only[zAe];omega) ?_;intro v4 w4 ho4 hg4 _;have O4_:=hid ho4;have G4:=hid hg4;clear ho4 hg4))
  go_ret2
  refine⟨_,rfl,zAR HG3.out O3_.out (Nat.le_refl _) (zAb (World.grownBy_alloc _ _ _) G4.out),?_⟩;rw[HRs.out];exact O4_.out
theorem zCr (s:Na.Sb) (hr:Na.right s=true) (w:World):Calls prog 18 #[Na.val s] w fun e w'=>∃ v,e=.returned v/\w.grownBy w' none/\w'.ownsRow w.heap.size 88 2 v (Na.parts s).length (cellsP (Na.parts s)):=by
 have HIP:=hid zMv;obtain⟨hk,_,_,h4,h5⟩:=Na.right_facts hr;obtain⟨R,hR⟩:∃ R,R=Na.parts s:=⟨_,rfl⟩
 rw[<-hR];unfold Na.parts Na.o1 Na.o2 Na.o3 at hR;obtain⟨k,sp,nm⟩:=s;simp only at *;have HWd:=hid (fun W=>zGz k ⟨by omega,by omega⟩ W);unfold Na.val at *;generalize Na.word k=wd at *;have HC:Hid (∀ W,(w.alloc (.cells #[.int .i64 k,.string sp,.string nm] 23)).grownBy W none->W.heap[w.heap.size]?=some (.cells #[.int .i64 k,.string sp,.string nm] 23 (0,0))):=hid (fun W hg=>zAr (alloc_at w _) hg);have HOne:=hid (fun(w:World) base hb x y=>zIU (w:=w) base hb x y);by_cases hs:k=2
 ·rw[if_neg (fun h=>h5.1 h hs)]at hR;have HRs:=hid hR;have hk2:(k==2)=true:=by rw[hs];rfl
  clear hR hs hr hk h4 h5;go_enter func18,ntmps18
  go_wp2_with (first
   |(go_at_call 44;refine(HWd.out _).mono ?_;rintro e w2 ⟨rfl,hg2⟩;have hb:=HC.out _ hg2;have HB2:=hid hb;have c0:=cell_blk hb 0 rfl;have c1:=cell_blk hb 1 rfl;have c2:=cell_blk hb 2 rfl;have hlt:=zAi hb;have HG2:=hid (zAb (zAc (zAa _ _) _) hg2);clear hg2 hb;have e0:=HOne.out w2 w.heap.size HG2.out.size (.string ⟨#[49,46,51,46,57,57,57,57,46,49,46,49]⟩) (.string wd);have E0:=hid (e0.alloc (.cells #[.string ⟨#[49,46,51,46,57,57,57,57,46,49,46,50]⟩,.string sp] 88));clear e0)
   |(at_builtin;refine zAH (by rfl) (.tmp 12) (.tmp 16) 26 (by rfl) w.heap.size 88 (.agg #[.string ⟨#[]⟩,.string ⟨#[]⟩]) 2 32 underlying26 HIP.out rfl (by decide) (by decide) _ 1 [.string ⟨#[49,46,51,46,57,57,57,57,46,49,46,49]⟩,.string wd] (by rfl) E0.out ⟨_,0,none⟩ 1 _ [.string ⟨#[49,46,51,46,57,57,57,57,46,49,46,50]⟩,.string sp] (by rfl) rfl (by intro j u hj;rw[addr_addO,Nat.zero_add];exact cell_blk (alloc_at2 w2 (.cells #[.string ⟨#[49,46,51,46,57,57,57,57,46,49,46,49]⟩,.string wd] 88) (.cells #[.string ⟨#[49,46,51,46,57,57,57,57,46,49,46,50]⟩,.string sp] 88)) j (by simpa using hj)) (by intro u hu;simp at hu;rcases hu with rfl|rfl <;> rfl) (by omega) (by have:=HG2.out.size;simp only[zAe];omega) ?_;intro v3 w3 ho3 hg3 _;have O3_:=hid ho3;have G3:=hid hg3;clear ho3 hg3;have HB3:=hid (zGW HB2.out (World.grownBy_alloc _ _ none) (HOne.out w2 w.heap.size HG2.out.size (.string ⟨#[49,46,51,46,57,57,57,57,46,49,46,49]⟩) (.string wd)) (by decide) (zAb (World.grownBy_alloc _ _ _) G3.out));have c2:=cell_blk HB3.out 2 rfl;have hlt3:=zAi HB3.out;have E3:=hid (O3_.out.alloc (.cells #[.string ⟨#[49,46,51,46,57,57,57,57,46,49,46,51]⟩,.string nm] 88));have HG3:=hid (zAR (zAc HG2.out _) (HOne.out w2 w.heap.size HG2.out.size (.string ⟨#[49,46,51,46,57,57,57,57,46,49,46,49]⟩) (.string wd)) (Nat.le_refl _) (zAb (World.grownBy_alloc _ _ _) G3.out)))
   |(at_builtin;refine zAH (by rfl) (.tmp 18) (.tmp 22) 26 (by rfl) w.heap.size 88 (.agg #[.string ⟨#[]⟩,.string ⟨#[]⟩]) 2 32 underlying26 HIP.out rfl (by decide) (by decide) _ 2 [.string ⟨#[49,46,51,46,57,57,57,57,46,49,46,49]⟩,.string wd,.string ⟨#[49,46,51,46,57,57,57,57,46,49,46,50]⟩,.string sp] (by rfl) E3.out ⟨_,0,none⟩ 1 _ [.string ⟨#[49,46,51,46,57,57,57,57,46,49,46,51]⟩,.string nm] (by rfl) rfl (by intro j u hj;rw[addr_addO,Nat.zero_add];exact cell_blk (alloc_at w3 (.cells #[.string ⟨#[49,46,51,46,57,57,57,57,46,49,46,51]⟩,.string nm] 88)) j (by simpa using hj)) (by intro u hu;simp at hu;rcases hu with rfl|rfl <;> rfl) (by omega) (by have:=HG3.out.size;simp only[zAe];omega) ?_;intro v4 w4 ho4 hg4 _;have O4_:=hid ho4;have G4:=hid hg4;clear ho4 hg4))
  go_ret
  refine⟨_,rfl,zAR HG3.out O3_.out (Nat.le_refl _) (zAb (World.grownBy_alloc _ _ _) G4.out),?_⟩;rw[HRs.out];exact O4_.out
 ·rw[if_pos (h4 hs)]at hR;have HRs:=hid hR;have hk2:(k==2)=false:=by simpa using hs
  clear hR hs hr hk h4 h5;go_enter func18,ntmps18
  go_wp2_with (first
   |(go_at_call 44;refine(HWd.out _).mono ?_;rintro e w2 ⟨rfl,hg2⟩;have hb:=HC.out _ hg2;have c0:=cell_blk hb 0 rfl;have c1:=cell_blk hb 1 rfl;have c2:=cell_blk hb 2 rfl;have hlt:=zAi hb;have HG2:=hid (zAb (zAc (zAa _ _) _) hg2);clear hg2 hb;have e0:=HOne.out w2 w.heap.size HG2.out.size (.string ⟨#[49,46,51,46,57,57,57,57,46,49,46,49]⟩) (.string wd);have E0:=hid (e0.alloc (.cells #[.string ⟨#[49,46,51,46,57,57,57,57,46,49,46,51]⟩,.string nm] 88));clear e0)
   |(at_builtin;refine zAH (by rfl) (.tmp 18) (.tmp 22) 26 (by rfl) w.heap.size 88 (.agg #[.string ⟨#[]⟩,.string ⟨#[]⟩]) 2 32 underlying26 HIP.out rfl (by decide) (by decide) _ 1 [.string ⟨#[49,46,51,46,57,57,57,57,46,49,46,49]⟩,.string wd] (by rfl) E0.out ⟨_,0,none⟩ 1 _ [.string ⟨#[49,46,51,46,57,57,57,57,46,49,46,51]⟩,.string nm] (by rfl) rfl (by intro j u hj;rw[addr_addO,Nat.zero_add];exact cell_blk (alloc_at2 w2 (.cells #[.string ⟨#[49,46,51,46,57,57,57,57,46,49,46,49]⟩,.string wd] 88) (.cells #[.string ⟨#[49,46,51,46,57,57,57,57,46,49,46,51]⟩,.string nm] 88)) j (by simpa using hj)) (by intro u hu;simp at hu;rcases hu with rfl|rfl <;> rfl) (by omega) (by have:=HG2.out.size;simp only[zAe];omega) ?_;intro v3 w3 ho3 hg3 _;have O3_:=hid ho3;have G3:=hid hg3;clear ho3 hg3))
  go_ret
  refine⟨_,rfl,zAR (zAc HG2.out _) (HOne.out w2 w.heap.size HG2.out.size (.string ⟨#[49,46,51,46,57,57,57,57,46,49,46,49]⟩) (.string wd)) (Nat.le_refl _) (zAb (World.grownBy_alloc _ _ _) G3.out),?_⟩;rw[HRs.out];exact O3_.out
theorem Prts.form {w:World} {v:Value} {l:List Na.Pr} (h:Prts w v l):∃ a c,v=.slice a l.length c:=by
 obtain⟨a,_,_,c,e,_⟩:=h;exact⟨a,c,e⟩
theorem zGq (v1 v2:Value) (l m:List Na.Pr) (w:World) (h1:Prts w v1 l) (h2:Prts w v2 m) (hl:l.length<=2000) (hm:m.length<=2000) :
  Calls prog 51 #[v1,v2] w fun e w'=>e=.returned (.bool (decide (l=m)))/\w.grownBy w' none:=by
 have HP1:=hid (fun W (hg:w.grownBy W none)=>h1.grown hg);have HP2:=hid (fun W (hg:w.grownBy W none)=>h2.grown hg);obtain⟨a1,b1,s1,c1,rfl,ha1,hx1⟩:=h1;obtain⟨a2,b2,s2,c2,rfl,ha2,hx2⟩:=h2;by_cases hlm:l.length=m.length
 ·have HX1:=hid (fun W (hg:w.grownBy W none) i (hi:i<l.length)=>(show W.cell? ⟨b1,s1+i*2,none⟩=some (.string (l.getD i (Na.e0,Na.e0)).1)/\W.cell? ⟨b1,s1+i*2+1,none⟩=some (.string (l.getD i (Na.e0,Na.e0)).2)from by
   have hb:=hg.block b1 (ha1 (by omega)).2 (by simp);exact⟨(World.cell?_of_block hb).trans (hx1 i hi).1,(World.cell?_of_block hb).trans (hx1 i hi).2⟩))
  have HX2:=hid (fun W (hg:w.grownBy W none) i (hi:i<m.length)=>(show W.cell? ⟨b2,s2+i*2,none⟩=some (.string (m.getD i (Na.e0,Na.e0)).1)/\W.cell? ⟨b2,s2+i*2+1,none⟩=some (.string (m.getD i (Na.e0,Na.e0)).2)from by
   have hb:=hg.block b2 (ha2 (by omega)).2 (by simp);exact⟨(World.cell?_of_block hb).trans (hx2 i hi).1,(World.cell?_of_block hb).trans (hx2 i hi).2⟩))
  obtain⟨N,hN⟩:∃ N,N=l.length:=⟨_,rfl⟩
  have HA1:Hid (0<N->a1=some ⟨b1,s1,none⟩):=hid (fun h=>(ha1 (by omega)).1);have HA2:Hid (0<N->a2=some ⟨b2,s2,none⟩):=hid (fun h=>(ha2 (by omega)).1);have HEq:Hid ((∀ j,j<N->l.getD j (Na.e0,Na.e0)=m.getD j (Na.e0,Na.e0))->l=m):=hid (fun h=>by
   apply List.ext_getElem (by omega);intro i hi hi2;have:=h i (by omega);rw[List.getD_eq_getElem?_getD,List.getD_eq_getElem?_getD,List.getElem?_eq_getElem hi,List.getElem?_eq_getElem hi2]at this;simpa using this)
  rw[<-hN]at HX1;rw[<-hlm,<-hN]at HX2;rw[<-hlm,<-hN];have hNl:N<=2000:=by omega
  obtain⟨R,hR⟩:∃ R,R=decide (l=m):=⟨_,rfl⟩
  rw[<-hR];have HR:=hid hR;clear hR;clear ha1 ha2 hx1 hx2 hlm hl hm hN HP1 HP2;go_enter func51,ntmps51
  go_wp2
  go_loopw [13,5] (fun i _ wr=>∃ k:Nat,k<=N/\i=.int .i64 (k:Int)/\w.grownBy wr none/\∀ j,j<k->l.getD j (Na.e0,Na.e0)=m.getD j (Na.e0,Na.e0)) (fun i _ _=>N-(intOf i).toNat)
  case atStart=>exact⟨0,by omega,rfl,zAa _ _,fun j hj=>absurd hj (Nat.not_lt_zero _)⟩
  case round =>
   obtain⟨k,hk,rfl,hg,h0⟩:=hrel;have HG:=hid hg;have H0:=hid h0;clear hg h0;by_cases hkN:k<N
   ·obtain⟨x0,x1⟩:=HX1.out wr HG.out k hkN;obtain⟨y0,y1⟩:=HX2.out wr HG.out k hkN;obtain rfl:=HA1.out (by omega);obtain rfl:=HA2.out (by omega);by_cases he:l.getD k (Na.e0,Na.e0)=m.getD k (Na.e0,Na.e0)
    ·have HN2:Hid (∀ j,j<k+1->l.getD j (Na.e0,Na.e0)=m.getD j (Na.e0,Na.e0)):=hid (fun j hj=>by
      rcases Nat.lt_or_ge j k with h|h
      ·exact H0.out j h
      ·obtain rfl:j=k:=by omega
       exact he)
     rw[<-he]at y0 y1;generalize l.getD k (Na.e0,Na.e0)=p at *;obtain⟨p1,p2⟩:=p;simp only at x0 x1 y0 y1;clear he;go_wp2
     go_quiet (fail)
     go_wp2
     go_roundw
     case rel=>exact⟨k+1,by omega,by go_num,zAd HG.out _,HN2.out⟩
     case measure=>simp[intOf];omega
    ·have hlm:Hid (decide (l=m)=false):=hid (decide_eq_false (fun h=>he (by rw[h])));generalize l.getD k (Na.e0,Na.e0)=p at *;generalize m.getD k (Na.e0,Na.e0)=q at *;obtain⟨p1,p2⟩:=p;obtain⟨q1,q2⟩:=q;simp only at x0 x1 y0 y1;have hcs:(¬ p1.toList=q1.toList)∨(p1=q1/\¬ p2.toList=q2.toList):=by
      by_cases e:p1=q1
      ·exact .inr ⟨e,fun h=>he (by rw[e,Na.toList_inj h])⟩
      ·exact .inl (fun h=>e (Na.toList_inj h))
     clear he;rcases hcs with hc|⟨rfl,hc⟩
     all_goals
      go_wp2
      go_quiet (fail)
      go_wp2
      go_ret
      exact⟨retB7 (by rw[HR.out,hlm.out]),zAd HG.out _⟩
   ·obtain rfl:k=N:=by omega
    have hlm:Hid (decide (l=m)=true):=hid (decide_eq_true (HEq.out H0.out));go_wp2
    go_ret
    exact⟨retB7 (by rw[HR.out,hlm.out]),HG.out⟩
 ·have hne:¬ l=m:=fun h=>hlm (by rw[h])
  rw[decide_eq_false hne];have hlm':((l.length:Int)==(m.length:Int))=false:=by rw[beq_eq_false_iff_ne];omega
  generalize l.length=N1 at *;generalize m.length=N2 at *;clear ha1 ha2 hx1 hx2 hne hlm HP1 HP2;go_enter func51,ntmps51
  go_wp2
  go_ret
  exact⟨rfl,zAa _ _⟩
theorem zKd (p:Na.Pr) (o:ByteArray) (ob:Nat) (w:World) (ho:w.cell? ⟨ob,0,none⟩=some (.string o)):Calls prog 49 #[.agg #[.string p.1,.string p.2],.pointer (some ⟨ob,0,none⟩)] w fun e w'=>e=.returned (.bool (decide (p.1=o)))/\w.grownBy w' none:=by
 obtain⟨p1,p2⟩:=p;have hlt:=World.block_lt_of_cell? w _ ho;have hlt':ob<w.heap.size:=hlt;have hb:(p1.toList==o.toList)=decide (p1=o):=by
  rw[Bool.eq_iff_iff,beq_iff_eq,decide_eq_true_eq];exact⟨Na.toList_inj,fun h=>by rw[h]⟩
 have HB:=hid hb;clear hb;simp only;go_enter func49,ntmps49
 go_wp2
 go_ret
 exact⟨retB7 (by rw[<-HB.out]),zAc (zAa _ _) _⟩
def ixOf (o:ByteArray):List Na.Pr->Int
 |[]=>-1
 |p :: r=>if p.1=o then 0 else if ixOf o r=-1 then -1 else ixOf o r+1
theorem zMt:∀ {l:List Na.Pr} {o:ByteArray} {k:Nat},k<l.length->(∀ j,j<k->(l.getD j (Na.e0,Na.e0)).1≠o)->(l.getD k (Na.e0,Na.e0)).1=o->ixOf o l=k
 |[],_,k,h,_,_=>absurd h (Nat.not_lt_zero _)
 |p :: r,o,0,_,_,h=>by rw[ixOf,if_pos (by simpa using h)];rfl
 |p :: r,o,k+1,hk,hj,h=>by
  rw[ixOf,if_neg (by simpa using hj 0 (by omega)),zMt (k:=k) (by simpa using hk) (fun j hjk=>by simpa using hj (j+1) (by omega)) (by simpa using h),if_neg (by omega)];omega
theorem zJh:∀ {l:List Na.Pr} {o:ByteArray},(∀ j,j<l.length->(l.getD j (Na.e0,Na.e0)).1≠o)->ixOf o l=-1
 |[],_,_=>rfl
 |p :: r,o,h=>by
  rw[ixOf,if_neg (by simpa using h 0 (by simp)),zJh (fun j hj=>by simpa using h (j+1) (by simpa using hj)),if_pos rfl]
theorem zGS:∀ (l:List Na.Pr) (o:ByteArray),(∃ j:Nat,j<l.length/\Na.firstOf o l=(l.getD j (Na.e0,Na.e0)).2/\ixOf o l=j)∨(Na.firstOf o l=Na.e0/\ixOf o l=-1)
 |[],_=>.inr ⟨rfl,rfl⟩
 |p :: r,o=>by
  by_cases e:p.1=o
  ·exact .inl ⟨0,by simp,by rw[Na.firstOf,if_pos e];simp,by rw[ixOf,if_pos e];rfl⟩
  ·rcases zGS r o with⟨j,h1,h2,h3⟩|⟨h1,h2⟩
   ·exact .inl ⟨j+1,by simpa using h1,by rw[Na.firstOf,if_neg e,h2];simp,by rw[ixOf,if_neg e,h3,if_neg (by omega)];omega⟩
   ·exact .inr ⟨by rw[Na.firstOf,if_neg e,h1],by rw[ixOf,if_neg e,h2,if_pos rfl]⟩
theorem zGi (v:Value) (l:List Na.Pr) (o:ByteArray) (ob:Nat) (w:World) (hP:Prts w v l) (ho:w.cell? ⟨ob,0,none⟩=some (.string o)) (hl:l.length<=2000) :
  Calls prog 48 #[v,.func (.func 49) #[] #[.pointer (some ⟨ob,0,none⟩)]] w fun e w'=>e=.returned (.int .i64 (ixOf o l))/\w.grownBy w' none:=by
 obtain⟨a1,b1,s1,c1,rfl,ha1,hx1⟩:=hP;have HOf:=hid (fun W (hg:w.grownBy W none) p=>zKd p o ob W ((World.cell?_of_block (hg.block ob (World.block_lt_of_cell? w _ ho) (by simp))).trans ho));have HX1:=hid (fun W (hg:w.grownBy W none) i (hi:i<l.length)=>(show W.cell? ⟨b1,s1+i*2,none⟩=some (.string (l.getD i (Na.e0,Na.e0)).1)/\W.cell? ⟨b1,s1+i*2+1,none⟩=some (.string (l.getD i (Na.e0,Na.e0)).2)from by
  have hb:=hg.block b1 (ha1 (by omega)).2 (by simp);exact⟨(World.cell?_of_block hb).trans (hx1 i hi).1,(World.cell?_of_block hb).trans (hx1 i hi).2⟩))
 have HF:Hid (∀ k,k<l.length->(∀ j,j<k->(l.getD j (Na.e0,Na.e0)).1≠o)->(l.getD k (Na.e0,Na.e0)).1=o->ixOf o l=k):=hid (fun k=>zMt);have HNn:Hid ((∀ j,j<l.length->(l.getD j (Na.e0,Na.e0)).1≠o)->ixOf o l=-1):=hid zJh;generalize ixOf o l=R at *;obtain⟨N,hN⟩:∃ N,N=l.length:=⟨_,rfl⟩
 have HA1:Hid (0<N->a1=some ⟨b1,s1,none⟩):=hid (fun h=>(ha1 (by omega)).1);rw[<-hN]at HX1 HF HNn;rw[<-hN];have hNl:N<=2000:=by omega
 clear ha1 hx1 hl hN ho;go_enter func48,ntmps48
 go_wp2
 go_loopw [8,5] (fun i _ wr=>∃ k:Nat,k<=N/\i=.int .i64 (k:Int)/\w.grownBy wr none/\∀ j,j<k->(l.getD j (Na.e0,Na.e0)).1≠o) (fun i _ _=>N-(intOf i).toNat)
 case atStart=>exact⟨0,by omega,rfl,zAa _ _,fun j hj=>absurd hj (Nat.not_lt_zero _)⟩
 case round =>
  obtain⟨k,hk,rfl,hg,h0⟩:=hrel;have HG:=hid hg;have H0:=hid h0;clear hg h0;by_cases hkN:k<N
  ·obtain⟨x0,x1⟩:=HX1.out wr HG.out k hkN;obtain rfl:=HA1.out (by omega);have HC:=hid (HOf.out wr HG.out (l.getD k (Na.e0,Na.e0)));by_cases he:(l.getD k (Na.e0,Na.e0)).1=o
   ·rw[decide_eq_true he]at HC;have HY:Hid (R=k):=hid (HF.out k hkN H0.out he);generalize (l.getD k (Na.e0,Na.e0)).1=p1 at *;generalize (l.getD k (Na.e0,Na.e0)).2=p2 at *;clear he;go_wp2_with (go_at_call 49;refine HC.out.mono ?_;rintro e w2 ⟨rfl,hg2⟩;have HG2:=hid (zAb HG.out hg2);clear hg2)
    go_ret
    exact⟨by rw[HY.out];rfl,HG2.out⟩
   ·rw[decide_eq_false he]at HC;have HN2:Hid (∀ j,j<k+1->(l.getD j (Na.e0,Na.e0)).1≠o):=hid (fun j hj=>by
     rcases Nat.lt_or_ge j k with h|h
     ·exact H0.out j h
     ·obtain rfl:j=k:=by omega
      exact he)
    generalize (l.getD k (Na.e0,Na.e0)).1=p1 at *;generalize (l.getD k (Na.e0,Na.e0)).2=p2 at *;clear he;go_wp2_with (go_at_call 49;refine HC.out.mono ?_;rintro e w2 ⟨rfl,hg2⟩;have HG2:=hid (zAb HG.out hg2);clear hg2)
    go_roundw
    case rel=>exact⟨k+1,by omega,by go_num,HG2.out,HN2.out⟩
    case measure=>simp[intOf];omega
  ·obtain rfl:k=N:=by omega
   have HY:Hid (R=-1):=hid (HNn.out H0.out);go_wp2
   go_ret
   exact⟨by rw[HY.out];rfl,HG.out⟩
theorem zLD (v:Value) (l:List Na.Pr) (o:ByteArray) (pb:Nat) (w:World) (hP:Prts w v l) (hp:w.cell? ⟨pb,0,none⟩=some v) (hl:l.length<=2000) :
  Calls prog 47 #[.string o,.pointer (some ⟨pb,0,none⟩)] w fun e w'=>e=.returned (.string (Na.firstOf o l))/\w.grownBy w' none:=by
 have hlt:pb<w.heap.size:=World.block_lt_of_cell? w _ hp;have HIx:=hid (zGi v l o w.heap.size (w.alloc (.cells #[.string o] 9)) (hP.grown (World.grownBy_alloc _ _ _)) (cell_blk (alloc_at w _) 0 rfl) hl);have HPb:=hid (fun W (hg:w.grownBy W none)=>(World.cell?_of_block (hg.block pb hlt (by simp))).trans hp);obtain⟨a1,b1,s1,c1,rfl,ha1,hx1⟩:=hP;have HX1:=hid (fun W (hg:w.grownBy W none) i (hi:i<l.length)=>(show W.cell? ⟨b1,s1+i*2+1,none⟩=some (.string (l.getD i (Na.e0,Na.e0)).2)from by
  have hb:=hg.block b1 (ha1 (by omega)).2 (by simp);exact(World.cell?_of_block hb).trans (hx1 i hi).2))
 have HA1:Hid (0<l.length->a1=some ⟨b1,s1,none⟩):=hid (fun h=>(ha1 h).1);have HG0:=hid (World.grownBy_alloc w (.cells #[.string o] 9) none);obtain⟨N,hN⟩:∃ N,N=l.length:=⟨_,rfl⟩
 have hic:=zGS l o;rw[<-hN]at HX1 HA1 HIx hp HPb;rw[<-hN]at hic;have hNl:N<=2000:=by omega
 obtain⟨R,hR⟩:∃ R,R=Na.firstOf o l:=⟨_,rfl⟩
 rw[<-hR]at hic ⊢;clear ha1 hx1 hN hR hl;rcases hic with⟨j,hj,hRj,hij⟩|⟨hR0,hij⟩
 ·rw[hij]at HIx;have HRj:=hid hRj;have HJ:=hid hj;have hj0:(0:Int)<=(j:Int):=by omega
  have hjN:(j:Int)<(N:Int):=by omega
  obtain rfl:=HA1.out (by omega);clear hij hRj;go_enter func47,ntmps47
  go_wp2_with (go_at_call 48;refine HIx.out.mono ?_;rintro e w2 ⟨rfl,hg2⟩;have hg:=zAb HG0.out hg2;have q1:=HPb.out _ hg;have q2:=HX1.out _ hg j HJ.out;have HG2:=hid hg;clear hg hg2)
  go_ret
  exact⟨by rw[HRj.out];rfl,HG2.out⟩
 ·rw[hij]at HIx;have HR0:=hid hR0;clear hij hR0;go_enter func47,ntmps47
  go_wp2_with (go_at_call 48;refine HIx.out.mono ?_;rintro e w2 ⟨rfl,hg2⟩;have HG2:=hid (zAb HG0.out hg2);clear hg2)
  go_ret
  exact⟨by rw[HR0.out];rfl,HG2.out⟩
theorem zFb (A:Nat->Addr) (s:Na.Sb) (h1:s.sp.size<=2000) (h2:s.nm.size<=2000) (hr:Na.right s=false) (w:World) (hE:NameErr w A):Calls prog 8 #[Na.val s] w fun e w'=>e=.returned (.tuple #[.slice none 0 0,errV A 9])/\w.grownBy w' none:=by
 have hI:(prog.info? 23).map (·.size)=some 3:=by kernel_rfl
 have HR:=hid (fun W=>zDo s h1 h2 W);rw[hr]at HR;obtain⟨k,sp,nm⟩:=s;unfold Na.val at *;have HB:=hid (alloc_at w (.cells #[.int .i64 k,.string sp,.string nm] 23));have HEr:=hid (fun W (hg:w.grownBy W none)=>(hE.grown hg).name);clear hr h1 h2 hE;go_enter func8,ntmps8
 go_wp2_with (first
  |(refine wpList_load_row (by rfl) 23 (.tmp 1) (by rfl) w.heap.size (by rfl) 23 #[.int .i64 k,.string sp,.string nm] (0,0) _ HB.out underlying23 rfl hI ?_)
  |(go_at_call 11;refine(HR.out _).mono ?_;rintro e w2 ⟨rfl,hg2⟩;have hg:=zAb (zAc (zAa _ _) _) hg2;have he:=HEr.out _ hg;have HG2:=hid hg;clear hg2 hg))
 go_quiet (fail)
 go_wp2
 go_ret2
 exact⟨rfl,zAd HG2.out _⟩
theorem zGZ {l:List Na.Pr} {o:ByteArray} (h:∀ p∈l,p.2.size<=900):(Na.firstOf o l).size<=900:=by
 induction l with
 |nil=>show Na.e0.size<=900;decide
 |cons p r ih =>
  rw[Na.firstOf];split
  ·exact h p (by simp)
  ·exact ih (fun q hq=>h q (by simp[hq]))
def OfV (A:Nat->Addr) (l:List Na.Pr):Array Value:=if Na.right (Na.s0 l)=true/\Na.parts (Na.s0 l)=l then #[Na.val (Na.s0 l),.nilIface]else #[Na.val ⟨0,Na.e0,Na.e0⟩,errV A 9]
theorem zLC (A:Nat->Addr) (v:Value) (l:List Na.Pr) (w:World) (hP:Prts w v l) (hl:l.length<=2000) (hsz:∀ p∈l,p.2.size<=900) (hW:Words w) (hE:NameErr w A):Calls prog 14 #[v] w fun e w'=>e=.returned (.tuple (OfV A l))/\w.grownBy w' none:=by
 have hI:(prog.info? 23).map (·.size)=some 3:=by kernel_rfl
 have f2:=zGZ (o:=Na.o2) hsz;have f3:=zGZ (o:=Na.o3) hsz;have HF:=hid (fun o W (hg:(w.alloc (.cells #[v] 26)).grownBy W none)=>zLD v l o w.heap.size W ((hP.grown (World.grownBy_alloc w (.cells #[v] 26) none)).grown hg) ((World.cell?_of_block (hg.block w.heap.size (by rw[zAe];omega) (by simp))).trans (cell_blk (alloc_at w _) 0 rfl)) hl);have HK:=hid (fun W (hg:w.grownBy W none)=>zHM (Na.firstOf Na.o1 l) W (hW.grown hg));have HR2:=hid (fun(b:Bool) (hb:Na.right (Na.s0 l)=true) W (hg:w.grownBy W none)=>zFa (Na.s0 l) (by show(Na.firstOf Na.o2 l).size<=2000;omega) (by show(Na.firstOf Na.o3 l).size<=2000;omega) hb W (hW.grown hg));have HR3:=hid (fun(hb:Na.right (Na.s0 l)=false) W (hg:w.grownBy W none)=>zFb A (Na.s0 l) (by show(Na.firstOf Na.o2 l).size<=2000;omega) (by show(Na.firstOf Na.o3 l).size<=2000;omega) hb W (hE.grown hg));have HEr:=hid (fun W (hg:w.grownBy W none)=>(hE.grown hg).name);have HEz:=hid (World.block_lt_of_cell? w _ hE.name);have HPv:=hid (fun W (hg:w.grownBy W none)=>hP.grown hg);have hpl:(Na.parts (Na.s0 l)).length<=2000:=by
  unfold Na.parts;split <;> simp
 have HEq:=hid (fun v1 W (h1:Prts W v1 (Na.parts (Na.s0 l))) (hg:w.grownBy W none)=>zGq v1 v (Na.parts (Na.s0 l)) l W h1 (hP.grown hg) hpl hl);have hV:Na.val (Na.s0 l)=.agg #[.int .i64 (Na.kindOf (Na.firstOf Na.o1 l)),.string (Na.firstOf Na.o2 l),.string (Na.firstOf Na.o3 l)]:=rfl;have hOV:OfV A l=if Na.right (Na.s0 l)=true/\Na.parts (Na.s0 l)=l then #[.agg #[.int .i64 (Na.kindOf (Na.firstOf Na.o1 l)),.string (Na.firstOf Na.o2 l),.string (Na.firstOf Na.o3 l)],.nilIface]else #[.agg #[.int .i64 0,.string ⟨#[]⟩,.string ⟨#[]⟩],errV A 9]:=rfl
 rw[hV]at HR2 HR3;rw[hOV];have HF1:=hid (fun W hg=>HF.out Na.o1 W hg);have HF2:=hid (fun W hg=>HF.out Na.o2 W hg);have HF3:=hid (fun W hg=>HF.out Na.o3 W hg);unfold Na.o1 at HF1;unfold Na.o2 at HF2;unfold Na.o3 at HF3;have HB0:=hid (alloc_at2 w (.cells #[v] 26) (.cells #[.int .i64 0,.string ⟨#[]⟩,.string ⟨#[]⟩] 23));have HC0:=hid (cell_blk (zAt (o:=.cells #[.int .i64 0,.string ⟨#[]⟩,.string ⟨#[]⟩] 23) (alloc_at w (.cells #[v] 26))) 0 rfl);have HG0:=hid (zAc (zAc (zAa w none) (.cells #[v] 26)) (.cells #[.int .i64 0,.string ⟨#[]⟩,.string ⟨#[]⟩] 23));have HG0b:=hid (World.grownBy_alloc (w.alloc (.cells #[v] 26)) (.cells #[.int .i64 0,.string ⟨#[]⟩,.string ⟨#[]⟩] 23) none);have hw0:w.heap.size<((w.alloc (.cells #[v] 26)).alloc (.cells #[.int .i64 0,.string ⟨#[]⟩,.string ⟨#[]⟩] 23)).heap.size:=by simp only[zAe];omega
 have HW0:=hid hw0;obtain⟨q,hq⟩:∃ q,q=Na.right (Na.s0 l):=⟨_,rfl⟩
 rw[<-hq]at HR2 HR3 ⊢;have HD:Hid (∀ b,decide (Na.parts (Na.s0 l)=l)=b->(Na.parts (Na.s0 l)=l↔b=true)):=hid (fun b h=>by rw[<-h];simp);generalize hps:Na.parts (Na.s0 l)=ps at *;unfold Na.o1 Na.o2 Na.o3 at *;generalize Na.firstOf ⟨#[49,46,51,46,57,57,57,57,46,49,46,49]⟩ l=x1 at *;generalize Na.firstOf ⟨#[49,46,51,46,57,57,57,57,46,49,46,50]⟩ l=x2 at *;generalize Na.firstOf ⟨#[49,46,51,46,57,57,57,57,46,49,46,51]⟩ l=x3 at *;generalize Na.kindOf x1=kx at *;obtain⟨av,nv,cv,rfl⟩:∃ a n c,v=.slice a n c:=by
  obtain⟨a,c,e⟩:=hP.form;exact⟨a,_,c,e⟩
 clear hq hps HF hV hOV f2 f3 hpl hl hsz hW hE hP hw0;have HF1':=hid (fun W hg=>HF1.out W hg);have arms:True:=trivial;clear HF1' arms;cases q with
 |false =>
  rw[if_neg (fun h=>absurd h.1 (by decide))];have HR3':=hid (HR3.out rfl);clear HR2 HR3 HEq HD;go_enter func14,ntmps14
  go_wp2_with (first
   |(go_at_call 47;with_reducible refine(HF1.out _ HG0b.out).mono ?_;rintro e wa ⟨rfl,hga⟩;have HA:=hid (zAb HG0b.out hga);have HGA:=hid (zAb HG0.out hga);have HBA:=hid (zAr HB0.out hga);have HCA:=hid ((World.cell?_of_block (hga.block w.heap.size HW0.out (by simp))).trans HC0.out);have HWA:=hid (Nat.lt_of_lt_of_le HW0.out hga.size);clear hga)
   |(go_at_call 50;with_reducible refine(HK.out _ HGA.out).mono ?_;rintro e w2 ⟨rfl,rfl⟩)
   |(go_at_call 47;with_reducible refine(HF2.out _ HA.out).mono ?_;rintro e wb ⟨rfl,hgb⟩;have HAB:=hid (zAb HA.out hgb);have HGB:=hid (zAb HGA.out hgb);have HBB:=hid (zAr HBA.out hgb);have HCB:=hid ((World.cell?_of_block (hgb.block w.heap.size HWA.out (by simp))).trans HCA.out);have HWB:=hid (Nat.lt_of_lt_of_le HWA.out hgb.size);clear hgb)
   |(go_at_call 47;with_reducible refine(HF3.out _ HAB.out).mono ?_;rintro e wc ⟨rfl,hgc⟩;have HGC:=hid (zAb HGB.out hgc);have HBC:=hid (zAr HBB.out hgc);have HCC:=hid ((World.cell?_of_block (hgc.block w.heap.size HWB.out (by simp))).trans HCB.out);have HWC:=hid (Nat.lt_of_lt_of_le HWB.out hgc.size);have HSC:=hid (alloc_at wc (.cells #[.int .i64 kx,.string x2,.string x3] 23));clear hgc)
   |(refine wpList_load_row (by rfl) 23 (.tmp 5) (by rfl) wc.heap.size (by rfl) 23 #[.int .i64 kx,.string x2,.string x3] (0,0) _ HSC.out underlying23 rfl hI ?_)
   |(go_at_call 8;refine(HR3'.out _ (zAc HGC.out _)).mono ?_;rintro e wd ⟨rfl,hgd⟩;have HGD:=hid (zAb (zAc HGC.out _) hgd);have HBD:=hid (zAr (zAt (o:=.cells #[.int .i64 kx,.string x2,.string x3] 23) HBC.out) hgd);clear hgd))
  have he:=HEr.out _ HGD.out;have y0:=zAh HBD.out 0;have y1:=zAh HBD.out 1;have y2:=zAh HBD.out 2;have z0:=cell_blk HBD.out 0 rfl;have z1:=cell_blk HBD.out 1 rfl;have z2:=cell_blk HBD.out 2 rfl;have hz:0<w.heap.size:=HEz.out;have hz1:w.heap.size+1≠0:=by omega
  have hz2:0≠w.heap.size+1:=by omega
  go_region
  go_wp2
  refine bodyPost_ret (v:=.tuple #[.agg #[.int .i64 0,.string ⟨#[]⟩,.string ⟨#[]⟩],errV A 9]) ?_ rfl ⟨rfl,?_⟩
  ·exact zAD results14 _ _ (w.heap.size+1) _ _ (0,0) _ _ rfl (set3 HBD.out) underlying23 rfl hI rfl
  ·exact zAd (zAq (zAq (zAq HGD.out (.inl (Nat.le_succ _)) _) (.inl (Nat.le_succ _)) _) (.inl (Nat.le_succ _)) _) 1
 |true =>
  have HR2':=hid (HR2.out true rfl);clear HR2 HR3;by_cases hpl:ps=l
  ·rw[if_pos ⟨rfl,hpl⟩];have HEq':Hid (∀ v1 W,Prts W v1 ps->w.grownBy W none->Calls prog 51 #[v1,.slice av nv cv] W fun e w'=>e=.returned (.bool true)/\W.grownBy w' none):=hid (fun v1 W h1 hg=>by have:=HEq.out v1 W h1 hg;rwa [decide_eq_true hpl]at this);clear HEq HD hpl HEr HEz;go_enter func14,ntmps14
   go_wp2_with (first
    |(go_at_call 47;with_reducible refine(HF1.out _ HG0b.out).mono ?_;rintro e wa ⟨rfl,hga⟩;have HA:=hid (zAb HG0b.out hga);have HGA:=hid (zAb HG0.out hga);have HBA:=hid (zAr HB0.out hga);have HCA:=hid ((World.cell?_of_block (hga.block w.heap.size HW0.out (by simp))).trans HC0.out);have HWA:=hid (Nat.lt_of_lt_of_le HW0.out hga.size);clear hga)
    |(go_at_call 50;with_reducible refine(HK.out _ HGA.out).mono ?_;rintro e w2 ⟨rfl,rfl⟩)
    |(go_at_call 47;with_reducible refine(HF2.out _ HA.out).mono ?_;rintro e wb ⟨rfl,hgb⟩;have HAB:=hid (zAb HA.out hgb);have HGB:=hid (zAb HGA.out hgb);have HBB:=hid (zAr HBA.out hgb);have HCB:=hid ((World.cell?_of_block (hgb.block w.heap.size HWA.out (by simp))).trans HCA.out);have HWB:=hid (Nat.lt_of_lt_of_le HWA.out hgb.size);clear hgb)
    |(go_at_call 47;with_reducible refine(HF3.out _ HAB.out).mono ?_;rintro e wc ⟨rfl,hgc⟩;have HGC:=hid (zAb HGB.out hgc);have HBC:=hid (zAr HBB.out hgc);have HCC:=hid ((World.cell?_of_block (hgc.block w.heap.size HWB.out (by simp))).trans HCB.out);have HWC:=hid (Nat.lt_of_lt_of_le HWB.out hgc.size);have HSC:=hid (alloc_at wc (.cells #[.int .i64 kx,.string x2,.string x3] 23));clear hgc)
    |(refine wpList_load_row (by rfl) 23 (.tmp 5) (by rfl) wc.heap.size (by rfl) 23 #[.int .i64 kx,.string x2,.string x3] (0,0) _ HSC.out underlying23 rfl hI ?_)
    |(go_at_call 8;refine(HR2'.out _ (zAc HGC.out _)).mono ?_;rintro e wd ⟨v1,rfl,hgd,ho⟩;have HGD:=hid (zAb (zAc HGC.out _) hgd);have HBD:=hid (zAr (zAt (o:=.cells #[.int .i64 kx,.string x2,.string x3] 23) HBC.out) hgd);have HSD:=hid (zAr HSC.out hgd);have HO:=hid (Prts.own ho rfl);have c0:=(World.cell?_of_block (hgd.block w.heap.size (by have:=HWC.out;rw[zAe];omega) (by simp))).trans ((World.cell?_of_block ((World.grownBy_alloc wc (.cells #[.int .i64 kx,.string x2,.string x3] 23) none).block w.heap.size HWC.out (by simp))).trans HCC.out);clear hgd ho)
    |(go_at_call 51;refine(HEq'.out _ _ HO.out HGD.out).mono ?_;rintro e we ⟨rfl,hge⟩;have HGE:=hid (zAb HGD.out hge);have HBE:=hid (zAr HBD.out hge);have HSE:=hid (zAr HSD.out hge);clear hge c0)
    |(refine wpList_load_row (by rfl) 23 (.tmp 5) (by rfl) wc.heap.size (by rfl) 23 #[.int .i64 kx,.string x2,.string x3] (0,0) _ HSE.out underlying23 rfl hI ?_;have y0:=zAh HBE.out 0;have y1:=zAh HBE.out 1;have y2:=zAh HBE.out 2;have z0:=cell_blk HBE.out 0 rfl;have z1:=cell_blk HBE.out 1 rfl;have z2:=cell_blk HBE.out 2 rfl))
   refine bodyPost_ret (v:=.tuple #[.agg #[.int .i64 kx,.string x2,.string x3],.nilIface]) ?_ rfl ⟨rfl,zAq (zAq (zAq HGE.out (.inl (Nat.le_succ _)) _) (.inl (Nat.le_succ _)) _) (.inl (Nat.le_succ _)) _⟩;exact zAD results14 _ _ (w.heap.size+1) _ _ (0,0) _ _ rfl (set3 HBE.out) underlying23 rfl hI rfl
  ·rw[if_neg (fun h=>hpl h.2)];have HEq':Hid (∀ v1 W,Prts W v1 ps->w.grownBy W none->Calls prog 51 #[v1,.slice av nv cv] W fun e w'=>e=.returned (.bool false)/\W.grownBy w' none):=hid (fun v1 W h1 hg=>by have:=HEq.out v1 W h1 hg;rwa [decide_eq_false hpl]at this);clear HEq HD hpl;go_enter func14,ntmps14
   go_wp2_with (first
    |(go_at_call 47;with_reducible refine(HF1.out _ HG0b.out).mono ?_;rintro e wa ⟨rfl,hga⟩;have HA:=hid (zAb HG0b.out hga);have HGA:=hid (zAb HG0.out hga);have HBA:=hid (zAr HB0.out hga);have HCA:=hid ((World.cell?_of_block (hga.block w.heap.size HW0.out (by simp))).trans HC0.out);have HWA:=hid (Nat.lt_of_lt_of_le HW0.out hga.size);clear hga)
    |(go_at_call 50;with_reducible refine(HK.out _ HGA.out).mono ?_;rintro e w2 ⟨rfl,rfl⟩)
    |(go_at_call 47;with_reducible refine(HF2.out _ HA.out).mono ?_;rintro e wb ⟨rfl,hgb⟩;have HAB:=hid (zAb HA.out hgb);have HGB:=hid (zAb HGA.out hgb);have HBB:=hid (zAr HBA.out hgb);have HCB:=hid ((World.cell?_of_block (hgb.block w.heap.size HWA.out (by simp))).trans HCA.out);have HWB:=hid (Nat.lt_of_lt_of_le HWA.out hgb.size);clear hgb)
    |(go_at_call 47;with_reducible refine(HF3.out _ HAB.out).mono ?_;rintro e wc ⟨rfl,hgc⟩;have HGC:=hid (zAb HGB.out hgc);have HBC:=hid (zAr HBB.out hgc);have HCC:=hid ((World.cell?_of_block (hgc.block w.heap.size HWB.out (by simp))).trans HCB.out);have HWC:=hid (Nat.lt_of_lt_of_le HWB.out hgc.size);have HSC:=hid (alloc_at wc (.cells #[.int .i64 kx,.string x2,.string x3] 23));clear hgc)
    |(refine wpList_load_row (by rfl) 23 (.tmp 5) (by rfl) wc.heap.size (by rfl) 23 #[.int .i64 kx,.string x2,.string x3] (0,0) _ HSC.out underlying23 rfl hI ?_)
    |(go_at_call 8;refine(HR2'.out _ (zAc HGC.out _)).mono ?_;rintro e wd ⟨v1,rfl,hgd,ho⟩;have HGD:=hid (zAb (zAc HGC.out _) hgd);have HBD:=hid (zAr (zAt (o:=.cells #[.int .i64 kx,.string x2,.string x3] 23) HBC.out) hgd);have HSD:=hid (zAr HSC.out hgd);have HO:=hid (Prts.own ho rfl);have c0:=(World.cell?_of_block (hgd.block w.heap.size (by have:=HWC.out;rw[zAe];omega) (by simp))).trans ((World.cell?_of_block ((World.grownBy_alloc wc (.cells #[.int .i64 kx,.string x2,.string x3] 23) none).block w.heap.size HWC.out (by simp))).trans HCC.out);clear hgd ho)
    |(go_at_call 51;refine(HEq'.out _ _ HO.out HGD.out).mono ?_;rintro e we ⟨rfl,hge⟩;have HGE:=hid (zAb HGD.out hge);have HBE:=hid (zAr HBD.out hge);have HSE:=hid (zAr HSD.out hge);clear hge c0))
   have he:=HEr.out _ HGE.out;have y0:=zAh HBE.out 0;have y1:=zAh HBE.out 1;have y2:=zAh HBE.out 2;have z0:=cell_blk HBE.out 0 rfl;have z1:=cell_blk HBE.out 1 rfl;have z2:=cell_blk HBE.out 2 rfl;have hz:0<w.heap.size:=HEz.out;have hz1:w.heap.size+1≠0:=by omega
   have hz2:0≠w.heap.size+1:=by omega
   go_region
   go_wp2
   refine bodyPost_ret (v:=.tuple #[.agg #[.int .i64 0,.string ⟨#[]⟩,.string ⟨#[]⟩],errV A 9]) ?_ rfl ⟨rfl,?_⟩
   ·exact zAD results14 _ _ (w.heap.size+1) _ _ (0,0) _ _ rfl (set3 HBE.out) underlying23 rfl hI rfl
   ·exact zAd (zAq (zAq (zAq HGE.out (.inl (Nat.le_succ _)) _) (.inl (Nat.le_succ _)) _) (.inl (Nat.le_succ _)) _) 1
def HitO (l:List Na.Pr) (k:Nat):Prop:=Na.right (Na.cand k l)=true/\Na.parts (Na.cand k l)=l
def RO9 (l:List Na.Pr) (e:Ending):Prop:=(∃ s,e=.returned (.tuple #[Na.val s,.bool true])/\Na.right s=true/\Na.parts s=l)∨(e=.returned (.tuple #[Na.val ⟨0,Na.e0,Na.e0⟩,.bool false])/\∀ k:Nat,1<=k->k<=5->¬ HitO l k)
theorem RO9.yes {l:List Na.Pr} {s:Na.Sb} (h1:Na.right s=true) (h2:Na.parts s=l):RO9 l (.returned (.tuple #[Na.val s,.bool true])):=.inl ⟨s,rfl,h1,h2⟩
theorem zIP (s:Na.Sb):(Na.parts s).length<=3:=by
 unfold Na.parts;split <;> simp
theorem zDx (w1:World) (k:Nat) {sp nm sp0 nm0:ByteArray} (h1:sp=sp0) (h2:nm=nm0):(w1.alloc (.cells #[.int .i64 (k:Int),.string sp0,.string nm0] 23)).heap[w1.heap.size]?=some (.cells #[.int .i64 (k:Int),.string sp,.string nm] 23 (0,0)):=by
 subst h1;subst h2;exact alloc_at _ _
theorem zHo (v:Value) (l:List Na.Pr) (w:World) (hP:Prts w v l) (hl:l.length<=2000) (hsz:∀ p∈l,p.2.size<=900):Calls prog 85 #[v] w fun e w'=>RO9 l e/\w.grownBy w' none:=by
 have hI:(prog.info? 23).map (·.size)=some 3:=by kernel_rfl
 have HRes0:=hid (alloc_at w (.cells #[.int .i64 0,.string ⟨#[]⟩,.string ⟨#[]⟩] 23));have HG0:=hid (zAc (zAa w none) (.cells #[.int .i64 0,.string ⟨#[]⟩,.string ⟨#[]⟩] 23));obtain⟨a2,b2,s2,c2,rfl,ha2,hx2⟩:=hP;have HX2:=hid (fun W (hg:w.grownBy W none) i (hi:i<l.length)=>(show W.cell? ⟨b2,s2+i*2,none⟩=some (.string (l.getD i (Na.e0,Na.e0)).1)/\W.cell? ⟨b2,s2+i*2+1,none⟩=some (.string (l.getD i (Na.e0,Na.e0)).2)from by
  have hb:=hg.block b2 (ha2 (by omega)).2 (by simp);exact⟨(World.cell?_of_block hb).trans (hx2 i hi).1,(World.cell?_of_block hb).trans (hx2 i hi).2⟩))
 have HSz:Hid (∀ i,i<l.length->(l.getD i (Na.e0,Na.e0)).2.size<=900):=hid (fun i hi=>by
  rw[List.getD_eq_getElem?_getD,List.getElem?_eq_getElem hi];exact hsz _ (List.getElem_mem hi))
 obtain⟨N,hN⟩:∃ N,N=l.length:=⟨_,rfl⟩
 have HNl:=hid hN;have HA2:Hid (0<N->a2=some ⟨b2,s2,none⟩):=hid (fun h=>(ha2 (by omega)).1);have HB2:Hid (0<N->b2<w.heap.size):=hid (fun h=>(ha2 (by omega)).2);rw[<-hN]at HX2 HSz ⊢;have hNl:N<=2000:=by omega
 have HCd:Hid (∀ k:Nat,Na.cand k l=⟨(k:Int),if(k:Int)=2/\1<N then(l.getD 1 (Na.e0,Na.e0)).2 else Na.e0,if 0<N then(l.getD (N-1) (Na.e0,Na.e0)).2 else Na.e0⟩):=hid (fun k=>by rw[hN];rfl);clear ha2 hx2 hsz hl hN;go_enter func85,ntmps85
 go_wp2
 go_loopw [4] (fun i wr=>∃ k:Nat,1<=k/\k<=6/\i=.int .i64 (k:Int)/\w.grownBy wr none/\wr.heap[w.heap.size]?=some (.cells #[.int .i64 0,.string ⟨#[]⟩,.string ⟨#[]⟩] 23 (0,0))/\∀ j:Nat,1<=j->j<k->¬ HitO l j) (fun i _=>6-(intOf i).toNat)
 case atStart=>exact⟨1,by omega,by omega,rfl,HG0.out,HRes0.out,fun j hj1 hj2=>by omega⟩
 case round =>
  obtain⟨k,hk1,hk6,rfl,hg,hres,h0⟩:=hrel;have HG1:=hid hg;have HRes1:=hid hres;have H0:=hid h0;clear hg hres h0 HRes0 HG0;by_cases hk:k=6
  ·subst hk;have y0:=zAh HRes1.out 0;have y1:=zAh HRes1.out 1;have y2:=zAh HRes1.out 2;have z0:=cell_blk HRes1.out 0 rfl;have z1:=cell_blk HRes1.out 1 rfl;have z2:=cell_blk HRes1.out 2 rfl;go_wp2
   refine bodyPost_ret (v:=.tuple #[.agg #[.int .i64 0,.string ⟨#[]⟩,.string ⟨#[]⟩],.bool false]) ?_ rfl ⟨.inr ⟨rfl,fun k h1 h5=>H0.out k h1 (by omega)⟩,zAq (zAq (zAq HG1.out (.inl (Nat.le_refl _)) _) (.inl (Nat.le_refl _)) _) (.inl (Nat.le_refl _)) _⟩;exact zAD results85 _ _ w.heap.size _ _ (0,0) _ _ rfl (set3 HRes1.out) underlying23 rfl hI rfl
  ·have hk5:k<=5:=by omega
   clear hk hk6;have hcd:=HCd.out k;obtain⟨w1,hw1⟩:∃ x,x=wr:=⟨_,rfl⟩
   subst hw1;have HB:=hid (alloc_at w1 (.cells #[.int .i64 (k:Int),.string ⟨#[]⟩,.string ⟨#[]⟩] 23));have HResB0:=hid (zAt (o:=.cells #[.int .i64 (k:Int),.string ⟨#[]⟩,.string ⟨#[]⟩] 23) HRes1.out);have HGB0:=hid (zAc HG1.out (.cells #[.int .i64 (k:Int),.string ⟨#[]⟩,.string ⟨#[]⟩] 23));have HSb:=hid HG1.out.size;have HSbr:Hid (w.heap.size<w1.heap.size):=hid (zAi HRes1.out);rcases(by omega:(k=2/\N=0)∨(k=2/\N=1)∨(k=2/\1<N)∨(k≠2/\N=0)∨(k≠2/\0<N))with⟨hkE,hN0⟩|⟨hkE,hN0⟩|⟨hkE,hN0⟩|⟨hkE,hN0⟩|⟨hkE,hN0⟩
   case' inl =>
    have hk2:((k:Int)==2)=true:=by rw[hkE];rfl
    rw[if_neg (by omega),if_neg (by omega)]at hcd;obtain⟨sp,hsp⟩:∃ x:ByteArray,x=⟨#[]⟩:=⟨_,rfl⟩
    obtain⟨nm,hnm⟩:∃ x:ByteArray,x=⟨#[]⟩:=⟨_,rfl⟩
    have HCand:Hid (Na.cand k l=⟨(k:Int),sp,nm⟩):=hid (by rw[hcd,hsp,hnm];rfl);have HszA:Hid (sp.size<=1000000/\nm.size<=1000000):=hid ⟨by rw[hsp];decide,by rw[hnm];decide⟩;have hN0':¬(0:Int)<(N:Int):=by omega
    have hN1':¬(1:Int)<(N:Int):=by omega
    have HRow:=hid (zDx w1 k hsp hnm);have HRes:=HResB0;have HG:=HGB0;have HkE:=hid hkE;clear hcd HB HResB0 HGB0 hkE hN0 hsp hnm
   case' inr.inl =>
    have hk2:((k:Int)==2)=true:=by rw[hkE];rfl
    obtain⟨M,hM⟩:∃ M,N=M+1:=⟨N-1,by omega⟩
    have hx:=(HX2.out _ HG1.out M (by omega)).2;have hzz:=HSz.out M (by omega);obtain rfl:=HA2.out (by omega);have hb2:b2<w1.heap.size:=Nat.lt_of_lt_of_le (HB2.out (by omega)) HG1.out.size;have hN0':(0:Int)<(N:Int):=by omega
    have hm1:(N:Int)-1=(M:Int):=by omega
    have hm2:wrap64 ((N:Int)-1)=(M:Int):=by unfold wrap64;omega
    have hm3:(0:Int)<=(M:Int):=by omega
    have hm4:(M:Int)<(N:Int):=by omega
    have hN1':¬(1:Int)<(N:Int):=by omega
    rw[if_neg (by omega),if_pos (by omega),show N-1=M by omega]at hcd;generalize (l.getD M (Na.e0,Na.e0)).2=nm at *;obtain⟨sp,hsp⟩:∃ x:ByteArray,x=⟨#[]⟩:=⟨_,rfl⟩
    have HCand:Hid (Na.cand k l=⟨(k:Int),sp,nm⟩):=hid (by rw[hcd,hsp];rfl);have HszA:Hid (sp.size<=1000000/\nm.size<=1000000):=hid ⟨by rw[hsp];decide,by omega⟩;have HRow:=hid (zDx w1 k hsp (rfl:nm=nm));have HRes:=hid (zAt (o:=.cells #[.int .i64 (k:Int),.string ⟨#[]⟩,.string nm] 23) HRes1.out);have HG:=hid (zAc HG1.out (.cells #[.int .i64 (k:Int),.string ⟨#[]⟩,.string nm] 23));have HkE:=hid hkE;clear hcd HB HResB0 HGB0 hzz hM hkE hN0 hsp
   case' inr.inr.inl =>
    have hk2:((k:Int)==2)=true:=by rw[hkE];rfl
    obtain⟨M,hM⟩:∃ M,N=M+1:=⟨N-1,by omega⟩
    have hx:=(HX2.out _ HG1.out M (by omega)).2;have hzz:=HSz.out M (by omega);obtain rfl:=HA2.out (by omega);have hb2:b2<w1.heap.size:=Nat.lt_of_lt_of_le (HB2.out (by omega)) HG1.out.size;have hN0':(0:Int)<(N:Int):=by omega
    have hm1:(N:Int)-1=(M:Int):=by omega
    have hm2:wrap64 ((N:Int)-1)=(M:Int):=by unfold wrap64;omega
    have hm3:(0:Int)<=(M:Int):=by omega
    have hm4:(M:Int)<(N:Int):=by omega
    have hxs:=(HX2.out _ HG1.out 1 (by omega)).2;have hzs:=HSz.out 1 (by omega);have hN1':(1:Int)<(N:Int):=by omega
    rw[if_pos (by omega),if_pos (by omega),show N-1=M by omega]at hcd;generalize (l.getD M (Na.e0,Na.e0)).2=nm at *;generalize (l.getD 1 (Na.e0,Na.e0)).2=sp at *;have HCand:Hid (Na.cand k l=⟨(k:Int),sp,nm⟩):=hid hcd;have HszA:Hid (sp.size<=1000000/\nm.size<=1000000):=hid ⟨by omega,by omega⟩;have HRow:=hid (zDx w1 k (rfl:sp=sp) (rfl:nm=nm));have HRes:=hid (zAt (o:=.cells #[.int .i64 (k:Int),.string sp,.string nm] 23) HRes1.out);have HG:=hid (zAc HG1.out (.cells #[.int .i64 (k:Int),.string sp,.string nm] 23));have HkE:=hid hkE;clear hcd HB HResB0 HGB0 hzz hzs hM hkE hN0
   case' inr.inr.inr.inl =>
    have hk2:((k:Int)==2)=false:=by rw[beq_eq_false_iff_ne];omega
    rw[if_neg (by omega),if_neg (by omega)]at hcd;obtain⟨sp,hsp⟩:∃ x:ByteArray,x=⟨#[]⟩:=⟨_,rfl⟩
    obtain⟨nm,hnm⟩:∃ x:ByteArray,x=⟨#[]⟩:=⟨_,rfl⟩
    have HCand:Hid (Na.cand k l=⟨(k:Int),sp,nm⟩):=hid (by rw[hcd,hsp,hnm];rfl);have HszA:Hid (sp.size<=1000000/\nm.size<=1000000):=hid ⟨by rw[hsp];decide,by rw[hnm];decide⟩;have hN0':¬(0:Int)<(N:Int):=by omega
    have hN1':¬(1:Int)<(N:Int):=by omega
    have HRow:=hid (zDx w1 k hsp hnm);have HRes:=HResB0;have HG:=HGB0;have HkE:=hid hkE;clear hcd HB HResB0 HGB0 hkE hN0 hsp hnm
   case' inr.inr.inr.inr =>
    have hk2:((k:Int)==2)=false:=by rw[beq_eq_false_iff_ne];omega
    obtain⟨M,hM⟩:∃ M,N=M+1:=⟨N-1,by omega⟩
    have hx:=(HX2.out _ HG1.out M (by omega)).2;have hzz:=HSz.out M (by omega);obtain rfl:=HA2.out (by omega);have hb2:b2<w1.heap.size:=Nat.lt_of_lt_of_le (HB2.out (by omega)) HG1.out.size;have hN0':(0:Int)<(N:Int):=by omega
    have hm1:(N:Int)-1=(M:Int):=by omega
    have hm2:wrap64 ((N:Int)-1)=(M:Int):=by unfold wrap64;omega
    have hm3:(0:Int)<=(M:Int):=by omega
    have hm4:(M:Int)<(N:Int):=by omega
    rw[if_neg (by omega),if_pos (by omega),show N-1=M by omega]at hcd;generalize (l.getD M (Na.e0,Na.e0)).2=nm at *;obtain⟨sp,hsp⟩:∃ x:ByteArray,x=⟨#[]⟩:=⟨_,rfl⟩
    have HCand:Hid (Na.cand k l=⟨(k:Int),sp,nm⟩):=hid (by rw[hcd,hsp];rfl);have HszA:Hid (sp.size<=1000000/\nm.size<=1000000):=hid ⟨by rw[hsp];decide,by omega⟩;have HRow:=hid (zDx w1 k hsp (rfl:nm=nm));have HRes:=hid (zAt (o:=.cells #[.int .i64 (k:Int),.string ⟨#[]⟩,.string nm] 23) HRes1.out);have HG:=hid (zAc HG1.out (.cells #[.int .i64 (k:Int),.string ⟨#[]⟩,.string nm] 23));have HkE:=hid hkE;clear hcd HB HResB0 HGB0 hzz hM hkE hN0 hsp
   all_goals
    have HRt:=hid (fun W=>zBP ⟨(k:Int),sp,nm⟩ ⟨by show(-9223372036854775808:Int)<=k;omega,by show(k:Int)<=9223372036854775807;omega⟩ (show sp.size<=1000000 from HszA.out.1) (show nm.size<=1000000 from HszA.out.2) W);unfold Na.val at HRt;simp only at HRt;cases hr:Na.right ⟨(k:Int),sp,nm⟩with
    |false =>
     rw[hr]at HRt;have HNo:Hid (∀ j:Nat,1<=j->j<k+1->¬ HitO l j):=hid (fun j hj1 hj2=>by
      rcases Nat.lt_or_ge j k with h|h
      ·exact H0.out j hj1 h
      ·obtain rfl:j=k:=by omega
       intro hh;have h1:=hh.1;rw[HCand.out,hr]at h1;exact absurd h1 (by decide))
     clear hr;go_wp2_with (first
      |(refine wpList_load_row (by rfl) 23 (.tmp 5) (by rfl) w1.heap.size (by rfl) 23 #[.int .i64 (k:Int),.string sp,.string nm] (0,0) _ HRow.out underlying23 rfl hI ?_)
      |(go_at_call 12;with_reducible refine(HRt.out _).mono ?_;rintro e wA ⟨rfl,hgA⟩;have HRowA:=hid (zAr HRow.out hgA);have HResA:=hid (zAr HRes.out hgA);have HGA:=hid (zAb HG.out hgA);clear hgA))
     go_roundw
     case rel=>exact⟨k+1,by omega,by omega,by go_num,HGA.out,HResA.out,HNo.out⟩
     case measure=>simp[intOf] <;> omega
    |true =>
     rw[hr]at HRt;have HPt:=hid (fun W=>zCr ⟨(k:Int),sp,nm⟩ hr W);unfold Na.val at HPt;simp only at HPt;have HY:Hid (Na.parts ⟨(k:Int),sp,nm⟩=l->RO9 l (.returned (.tuple #[.agg #[.int .i64 (k:Int),.string sp,.string nm],.bool true]))):=hid (fun h=>RO9.yes hr h);have HNo:Hid (Na.parts ⟨(k:Int),sp,nm⟩≠l->∀ j:Nat,1<=j->j<k+1->¬ HitO l j):=hid (fun hne j hj1 hj2=>by
      rcases Nat.lt_or_ge j k with h|h
      ·exact H0.out j hj1 h
      ·obtain rfl:j=k:=by omega
       intro hh;have h1:=hh.2;rw[HCand.out]at h1;exact hne h1)
     have hpl:=zIP ⟨(k:Int),sp,nm⟩;have HPl:=hid hpl;generalize Na.parts ⟨(k:Int),sp,nm⟩=ps at *;clear hr hpl;go_wp2_with (first
      |(refine wpList_load_row (by rfl) 23 (.tmp 5) (by rfl) w1.heap.size (by rfl) 23 #[.int .i64 (k:Int),.string sp,.string nm] (0,0) _ HRow.out underlying23 rfl hI ?_)
      |(go_at_call 12;with_reducible refine(HRt.out _).mono ?_;rintro e wA ⟨rfl,hgA⟩;have HRowA:=hid (zAr HRow.out hgA);have HResA:=hid (zAr HRes.out hgA);have HGA:=hid (zAb HG.out hgA);clear hgA)
      |(refine wpList_load_row (by rfl) 23 (.tmp 5) (by rfl) w1.heap.size (by rfl) 23 #[.int .i64 (k:Int),.string sp,.string nm] (0,0) _ HRowA.out underlying23 rfl hI ?_)
      |(go_at_call 18;refine(HPt.out _).mono ?_;rintro e wB ⟨v1,rfl,hgB,ho⟩;have HRowB:=hid (zAr HRowA.out hgB);have HResB:=hid (zAr HResA.out hgB);have HGB:=hid (zAb HGA.out hgB);have HO:=Prts.own ho rfl;clear hgB ho;obtain⟨a1,b1,s1,c1,hv1,ha1,hx1⟩:=HO;subst hv1;have HA1:=hid ha1;have HX1:=hid hx1;clear ha1 hx1))
     obtain⟨N1,hN1⟩:∃ N1,N1=ps.length:=⟨_,rfl⟩
     have HX1':=hid (fun W (hg:wB.grownBy W none) i (hi:i<ps.length)=>(show W.cell? ⟨b1,s1+i*2,none⟩=some (.string (ps.getD i (Na.e0,Na.e0)).1)/\W.cell? ⟨b1,s1+i*2+1,none⟩=some (.string (ps.getD i (Na.e0,Na.e0)).2)from by
      have hb:=hg.block b1 (HA1.out (by omega)).2 (by simp);exact⟨(World.cell?_of_block hb).trans (HX1.out i hi).1,(World.cell?_of_block hb).trans (HX1.out i hi).2⟩))
     have HA1':Hid (0<N1->a1=some ⟨b1,s1,none⟩):=hid (fun h=>(HA1.out (by omega)).1);have HEqP:Hid (N1=N->(∀ j,j<N1->ps.getD j (Na.e0,Na.e0)=l.getD j (Na.e0,Na.e0))->ps=l):=hid (fun hn h=>by
      have hNl:=HNl.out;apply List.ext_getElem (by omega);intro i hi hi2;have:=h i (by omega);rw[List.getD_eq_getElem?_getD,List.getD_eq_getElem?_getD,List.getElem?_eq_getElem hi,List.getElem?_eq_getElem hi2]at this;simpa using this)
     have HNeP:Hid (N1≠N->ps≠l):=hid (fun hn h=>by have hNl:=HNl.out;rw[h]at hN1;omega);have HN13:Hid (N1<=3):=hid (by have:=HPl.out;omega);rw[<-hN1]at HX1' ⊢;have hbe:((N1:Int)==(N:Int))=decide (N1=N):=by rw[Bool.eq_iff_iff,beq_iff_eq,decide_eq_true_eq];omega
     have HBe:=hid hbe;have HN1E:=hid hN1;clear hN1 HA1 HX1 HPl hbe;go_loopw [7,8] (fun sm ix wr=>∃ (i:Nat) (b:Bool),i<=N1/\sm=.bool b/\ix=.int .i64 (i:Int)/\wB.grownBy wr none/\(b=true->N1=N/\∀ j,j<i->ps.getD j (Na.e0,Na.e0)=l.getD j (Na.e0,Na.e0))/\(b=false->ps≠l)) (fun sm ix _=>(match sm with | .bool true=>1|_=>0)+(N1-(intOf ix).toNat))
     case atStart =>
      refine⟨0,decide (N1=N),by omega,by rw[<-HBe.out],rfl,zAa _ _,fun h=>⟨of_decide_eq_true h,fun j hj=>absurd hj (Nat.not_lt_zero _)⟩,fun h=>HNeP.out (of_decide_eq_false h)⟩
     case round =>
      obtain⟨i,b,hi,rfl,rfl,hgw,hbt,hbf⟩:=hrel;have HGW:=hid hgw;have HBt:=hid hbt;have HBf:=hid hbf;have HRowW:=hid (zAr HRowB.out hgw);have HResW:=hid (zAr HResB.out hgw);have HGWw:=hid (zAb HGB.out hgw);have hN13:=HN13.out;clear hgw hbt hbf;cases b with
      |false =>
       have HNo2:=hid (HNo.out (HBf.out rfl));go_wp2
       go_roundw
       case rel=>exact⟨k+1,by omega,by omega,by go_num,HGWw.out,HResW.out,HNo2.out⟩
       case measure=>simp[intOf] <;> omega
      |true =>
       obtain⟨hNN,heq⟩:=HBt.out rfl;have HEqs:=hid heq;have HNN:=hid hNN;clear heq hNN;by_cases hiN:i<N1
       ·have hiN2:i<N:=by have:=HNN.out;omega
        obtain⟨x0,x1⟩:=HX1'.out _ HGW.out i (by have:=HN1E.out;omega);obtain⟨y0,y1⟩:=HX2.out _ HGWw.out i hiN2;obtain rfl:=HA1'.out (by omega);have ha2:=HA2.out (by omega);try subst ha2
        try clear ha2
        have hii:(i:Int)<(N:Int):=by omega
        by_cases he:ps.getD i (Na.e0,Na.e0)=l.getD i (Na.e0,Na.e0)
        ·have HN2:Hid (∀ j,j<i+1->ps.getD j (Na.e0,Na.e0)=l.getD j (Na.e0,Na.e0)):=hid (fun j hj=>by
          rcases Nat.lt_or_ge j i with h|h
          ·exact HEqs.out j h
          ·obtain rfl:j=i:=by omega
           exact he)
         rw[<-he]at y0 y1;generalize ps.getD i (Na.e0,Na.e0)=p at *;obtain⟨p1,p2⟩:=p;simp only at x0 x1 y0 y1;clear he;go_wp2
         go_quiet (fail)
         go_wp2
         go_roundw
         case rel=>exact⟨i+1,true,by omega,rfl,by go_num,zAd HGW.out _,fun _=>⟨HNN.out,HN2.out⟩,fun h=>absurd h (by decide)⟩
         case measure=>simp[intOf] <;> omega
        ·have hne:ps≠l:=fun h=>he (by rw[h])
         have HNe:=hid hne;generalize ps.getD i (Na.e0,Na.e0)=p at *;generalize l.getD i (Na.e0,Na.e0)=q at *;obtain⟨p1,p2⟩:=p;obtain⟨q1,q2⟩:=q;simp only at x0 x1 y0 y1;have hcs:(¬ p1.toList=q1.toList)∨(p1=q1/\¬ p2.toList=q2.toList):=by
          by_cases e:p1=q1
          ·exact .inr ⟨e,fun h=>he (by rw[e,Na.toList_inj h])⟩
          ·exact .inl (fun h=>e (Na.toList_inj h))
         clear he hne;rcases hcs with hc|⟨rfl,hc⟩
         all_goals
          go_wp2
          go_quiet (fail)
          go_wp2
          go_roundw
          case rel=>exact⟨i+1,false,by omega,rfl,by go_num,zAd HGW.out _,fun h=>absurd h (by decide),fun _=>HNe.out⟩
          case measure=>simp[intOf] <;> omega
       ·obtain rfl:i=N1:=by omega
        have HYs:=hid (HY.out (HEqP.out HNN.out HEqs.out));have y0:=zAh HResW.out 0;have y1:=zAh HResW.out 1;have y2:=zAh HResW.out 2;have z0:=cell_blk HResW.out 0 rfl;have z1:=cell_blk HResW.out 1 rfl;have z2:=cell_blk HResW.out 2 rfl;go_wp2_with (refine wpList_load_row (by rfl) 23 (.tmp 5) (by rfl) w1.heap.size (by rfl) 23 #[.int .i64 (k:Int),.string sp,.string nm] (0,0) _ HRowW.out underlying23 rfl hI ?_)
        refine bodyPost_ret (v:=.tuple #[.agg #[.int .i64 (k:Int),.string sp,.string nm],.bool true]) ?_ rfl ⟨HYs.out,zAq (zAq (zAq HGWw.out (.inl (Nat.le_refl _)) _) (.inl (Nat.le_refl _)) _) (.inl (Nat.le_refl _)) _⟩;exact zAD results85 _ _ w.heap.size _ _ (0,0) _ _ rfl (set3 HResW.out) underlying23 rfl hI rfl
def IsS (l:List Na.Pr):Prop:=Na.right (Na.s0 l)=true/\Na.parts (Na.s0 l)=l
theorem zMc {l:List Na.Pr} {e:Ending} (h:RO9 l e) (hc:IsS l):e=.returned (.tuple #[Na.val (Na.s0 l),.bool true]):=by
 rcases h with⟨s,rfl,h1,h2⟩|⟨_,h⟩
 ·rw[<-h2,Na.s0_parts h1]
 ·exfalso
  obtain⟨h1,h2⟩:=hc;have hk:=(Na.right_facts h1).1;have hcd:=Na.cand_parts h1;rw[h2]at hcd;refine h (Na.s0 l).k.toNat (by omega) (by omega) ?_;unfold HitO;rw[Int.toNat_of_nonneg (by omega),hcd];exact⟨h1,h2⟩
theorem zMK {l:List Na.Pr} {e:Ending} (h:RO9 l e) (hc:¬ IsS l):e=.returned (.tuple #[Na.val ⟨0,Na.e0,Na.e0⟩,.bool false]):=by
 rcases h with⟨s,rfl,h1,h2⟩|⟨h,_⟩
 ·exfalso
  refine hc ?_;unfold IsS;rw[<-h2,Na.s0_parts h1];exact⟨h1,rfl⟩
 ·exact h
end Go.Proofs.YtijkaknggdaajaaGreatDoor
