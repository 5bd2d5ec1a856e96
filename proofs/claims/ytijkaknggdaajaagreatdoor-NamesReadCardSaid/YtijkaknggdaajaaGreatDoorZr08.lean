import Derived.Test.YtijkaknggdaajaaGreatDoorZr05
import Derived.Test.YtijkaknggdaajaaGreatDoorZr07
import Derived.Deep.MidRow
import Derived.Shelf.Strings.Search2
import Derived.Test.YtijkaknggdaajaaGreatDoorChecked
import Derived.Lib.IndexBytes
import Derived.BigQuiet
set_option linter.unusedVariables false
set_option linter.unusedSimpArgs false
set_option maxRecDepth 100000
set_option maxHeartbeats 1000000
namespace Go.Proofs.YtijkaknggdaajaaGreatDoor
open Lib (hid)
open Go.RowKit
def wordsL:List Value:=[.string (Na.word 0),.string (Na.word 1),.string (Na.word 2),.string (Na.word 3),.string (Na.word 4),.string (Na.word 5)]
theorem Words.range {w:World} (h:Words w):w.rangeAt 1 0 wordsL:=fun j v hj=>by
 have hj6:j<6:=(List.getElem?_eq_some_iff.1 hj).1
 rw[Nat.zero_add,h j hj6]
 match j,hj6 with
 |0,_=>exact hj
 |1,_=>exact hj
 |2,_=>exact hj
 |3,_=>exact hj
 |4,_=>exact hj
 |5,_=>exact hj
theorem kindOf_any (s:ByteArray) (w:World) (hW:Words w):Calls Tryz.prog 50 #[.string s] w fun e w'=>e=.returned (.int .i64 (Na.kindOf s))∧w'=w:=by
 have HI:(Tryz.prog.info? 86).map (·.size)=some wordsL.length:=by kernel_rfl
 have HRg:=hid hW.range
 obtain ⟨R,hR⟩:∃ R,R=Na.kindOf s:=⟨_,rfl⟩
 rw[←hR]
 have H1:Hid (∀ k:Nat,k<6→(∀ j:Nat,j<k→Na.word j≠s)→Na.word k=s→R=k):=hid (fun k hk hj h=>by
  have h':=h.symm
  rw[hR]
  unfold Na.kindOf
  match k,hk with
  |0,_=>subst h';decide +kernel
  |1,_=>subst h';decide +kernel
  |2,_=>subst h';decide +kernel
  |3,_=>subst h';decide +kernel
  |4,_=>subst h';decide +kernel
  |5,_=>subst h';decide +kernel)
 have H2:Hid ((∀ j:Nat,j<6→Na.word j≠s)→R=0):=hid (fun hj=>by
  rw[hR]
  unfold Na.kindOf
  rw[if_neg (fun e=>hj 1 (by decide) e.symm),if_neg (fun e=>hj 2 (by decide) e.symm),if_neg (fun e=>hj 3 (by decide) e.symm),if_neg (fun e=>hj 4 (by decide) e.symm),if_neg (fun e=>hj 5 (by decide) e.symm)])
 have HIx:Hid (∀ (k:Nat) (W:World),k<6→(Instr.index 86 (.agg wordsL.toArray) (.int .i64 (k:Int))).run Tryz.prog W=.ok (.string (Na.word k)) W):=hid (fun k W hk=>by
  have h6:((k:Int)<0∨(6:Int)≤k)=False:=by simp;omega
  match k,hk with
  |0,_=>simp[Instr.index,run_underlying Tryz.underlying86,asIntOf,Tryz.sizeOf9,go_sem,wordsL]
  |1,_=>simp[Instr.index,run_underlying Tryz.underlying86,asIntOf,Tryz.sizeOf9,go_sem,wordsL]
  |2,_=>simp[Instr.index,run_underlying Tryz.underlying86,asIntOf,Tryz.sizeOf9,go_sem,wordsL]
  |3,_=>simp[Instr.index,run_underlying Tryz.underlying86,asIntOf,Tryz.sizeOf9,go_sem,wordsL]
  |4,_=>simp[Instr.index,run_underlying Tryz.underlying86,asIntOf,Tryz.sizeOf9,go_sem,wordsL]
  |5,_=>simp[Instr.index,run_underlying Tryz.underlying86,asIntOf,Tryz.sizeOf9,go_sem,wordsL])
 generalize wordsL=WL at *
 clear hR hW
 go_enter Tryz.func50,Tryz.ntmps50
 go_wp2_with (refine wpList_load_mid (by rfl) 86 (.global 1) (by rfl) 1 0 (by rfl) WL _ HRg.out Tryz.underlying86 (by rfl) HI ?_)
 go_loopw [6,3,4] (fun i _ _ wr=>∃ k:Nat,k≤6∧i=.int .i64 (k:Int)∧wr=w∧∀ j:Nat,j<k→Na.word j≠s) (fun i _ _ _=>6-(intOf i).toNat)
 case atStart=>exact ⟨0,by omega,rfl,rfl,fun j hj=>absurd hj (Nat.not_lt_zero _)⟩
 case round =>
  obtain ⟨k,hk,rfl,rfl,h0⟩:=hrel
  have H0:=hid h0
  clear h0
  by_cases hk6:k<6
  ·have ix:=HIx.out k wr hk6
   have HRk:=hid (H1.out k hk6 H0.out)
   by_cases he:Na.word k=s
   ·have hRk:Hid (R=k):=hid (HRk.out he)
    generalize Na.word (k:Int)=wk at *
    subst he
    go_wp2
    go_ret
    exact ⟨by rw[hRk.out];rfl,rfl⟩
   ·have HN:Hid (∀ j:Nat,j<k+1→Na.word j≠s):=hid (fun j hj=>by
     rcases Nat.lt_or_ge j k with h|h
     ·exact H0.out j h
     ·obtain rfl:j=k:=by omega
      exact he)
    have hb:((Na.word k).toList==s.toList)=false:=by
     rw[beq_eq_false_iff_ne];exact fun h=>he (Na.toList_inj h)
    generalize Na.word (k:Int)=wk at *
    clear he
    go_wp2
    go_roundw
    case rel=>exact ⟨k+1,by omega,by go_num,trivial,HN.out⟩
    case measure=>simp[intOf];omega
  ·obtain rfl:k=6:=by omega
   have HR0:Hid (R=0):=hid (H2.out H0.out)
   go_wp2
   go_ret
   exact ⟨by rw[HR0.out];rfl,rfl⟩
theorem word_any (k:Int) (hk : -9223372036854775808≤k∧k≤9223372036854775807) (w:World):Calls Tryz.prog 44 #[.int .i64 k] w fun e w'=>e=.returned (.string (Na.word k))∧w.grownBy w' none:=by
 by_cases h1:k<1
 ·rw[show Na.word k=Na.e0 by unfold Na.word;rw[if_neg (by omega),if_neg (by omega),if_neg (by omega),if_neg (by omega),if_neg (by omega)];rfl]
  go_enter Tryz.func44,Tryz.ntmps44
  go_wp2
  go_ret
  exact ⟨rfl,grown_refl _ _⟩
 by_cases h5:5<k
 ·rw[show Na.word k=Na.e0 by unfold Na.word;rw[if_neg (by omega),if_neg (by omega),if_neg (by omega),if_neg (by omega),if_neg (by omega)];rfl]
  go_enter Tryz.func44,Tryz.ntmps44
  go_wp2
  go_ret
  exact ⟨rfl,grown_refl _ _⟩
 rcases (show k=1∨k=2∨k=3∨k=4∨k=5 by omega) with rfl|rfl|rfl|rfl|rfl
 all_goals
  clear hk h1 h5
  go_enter Tryz.func44,Tryz.ntmps44
  go_wp2
  go_ret
  exact ⟨rfl,grown_alloc (grown_refl _ _) _⟩
end Go.Proofs.YtijkaknggdaajaaGreatDoor
