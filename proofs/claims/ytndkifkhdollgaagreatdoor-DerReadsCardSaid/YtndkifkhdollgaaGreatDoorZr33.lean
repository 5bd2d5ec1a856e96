import Derived.Test.YtndkifkhdollgaaGreatDoorZr04
import Derived.Test.YtndkifkhdollgaaGreatDoorZr13
import Derived.Test.YtndkifkhdollgaaGreatDoorZr14
import Derived.Test.YtndkifkhdollgaaGreatDoorZr15
import Derived.Test.YtndkifkhdollgaaGreatDoorZr17
import Derived.Test.YtndkifkhdollgaaGreatDoorZr22
import Derived.Test.YtndkifkhdollgaaGreatDoorZr27
import Derived.Test.YtndkifkhdollgaaGreatDoorZr28
import Derived.Test.YtndkifkhdollgaaGreatDoorZr29
set_option linter.unusedVariables false
set_option linter.unusedSimpArgs false
set_option maxRecDepth 100000
set_option maxHeartbeats 1000000
namespace Go.Proofs.YtndkifkhdollgaaGreatDoor
open Lib (hid)
namespace De
theorem onums_err28:∀ (f most:Nat) (l:List Nat) {k:Nat},Od.nums f most l=.error k→k≤28
 |f,_,[],_,h=>by cases f <;> simp[Od.nums] at h
 |0,_,_ :: _,k,h=>by
  have h2:0=k:=Except.error.inj h
  omega
 |f+1,most,c :: l,k,h=>by
  rw[Od.nums] at h
  cases hp:Od.piece (c :: l) with
  |none=>rw[hp] at h;have:=Except.error.inj h;omega
  |some p =>
   obtain ⟨p,t⟩:=p
   rw[hp] at h
   have h:(if p.head?=some 128 then (Except.error 4:Except Nat (List Nat)) else if most<Od.sval p then .error 1 else match Od.nums f 2147483647 t with
    |.error k=>.error k
    |.ok r=>.ok (Od.sval p :: r))=.error k:=h
   split at h
   ·have:=Except.error.inj h;omega
   ·split at h
    ·have:=Except.error.inj h;omega
    ·cases hn:Od.nums f 2147483647 t with
     |error e=>rw[hn] at h;obtain rfl:=Except.error.inj h;exact onums_err28 f _ t hn
     |ok r=>rw[hn] at h;exact absurd h (by simp)
theorem oget_err28 {l:List Nat} {k:Nat} (h:Od.get l=.error k):k≤28:=by
 unfold Od.get at h
 cases hn:Od.nums l.length 2147483727 l with
 |error e=>rw[hn] at h;obtain rfl:=Except.error.inj h;exact onums_err28 _ _ l hn
 |ok r =>
  rw[hn] at h
  cases r with
  |nil=>have:=Except.error.inj h;omega
  |cons n r =>
   revert h
   simp only
   split
   ·intro h;exact absurd h (by simp)
   ·intro h;have:=Except.error.inj h;omega
theorem said_err28 {k least most:Int} {l:List Nat} {e:Nat} (h:De.said k least most l=.error e):e≤28:=by
 unfold De.said at h
 split at h
 ·cases hw:Wh.get l with
  |error j =>
   rw[hw] at h
   cases h
   revert hw
   unfold Wh.get
   repeat' split
   all_goals (intro hw;first|(have:=Except.error.inj hw;omega)|exact absurd hw (by simp))
  |ok n =>
   rw[hw] at h
   simp only at h
   split at h
   ·cases h;decide
   ·cases h
 split at h
 ·(repeat' split at h) <;> first|(cases h;decide)|cases h
 split at h
 ·(repeat' split at h) <;> first|(cases h;decide)|cases h
 split at h
 ·split at h
  ·cases h
  ·cases h;exact asked_le _ _
 split at h
 ·cases ho:Od.get l with
  |error j=>rw[ho] at h;cases h;exact oget_err28 ho
  |ok n=>rw[ho] at h;cases h
 split at h
 ·cases ho:Cal.get l with
  |error j =>
   rw[ho] at h;cases h
   revert ho
   unfold Cal.get
   repeat' split
   all_goals (intro hw;first|(have:=Except.error.inj hw;omega)|exact absurd hw (by simp))
  |ok n=>rw[ho] at h;cases h
 ·cases ho:Pt.mask l with
  |error j =>
   rw[ho] at h;cases h
   revert ho
   unfold Pt.mask
   repeat' split
   all_goals (intro hw;first|(have:=Except.error.inj hw;omega)|exact absurd hw (by simp))
  |ok n=>rw[ho] at h;cases h
theorem next_e28 {s:Rd} {tag:Int} (h:s.e≤28):(next s tag).1.e≤28:=by
 unfold next
 split
 ·exact h
 ·cases hf:Tl.first s.top with
  |error e=>exact first_err28 hf
  |ok p =>
   obtain ⟨t,i,n⟩:=p
   simp only
   split
   ·show 5≤28;decide
   ·exact h
theorem enter_e28 {s:Rd} {tag:Int} (h:s.e≤28):(enter s tag).1.e≤28:=by
 unfold enter
 split
 ·exact h
 ·split
  ·show 5≤28;decide
  ·have:=next_e28 (tag:=tag) h
   split
   ·rename_i hn;rw[hn] at this;exact this
   ·rename_i hn;rw[hn] at this;exact this
theorem leave_e28 {s:Rd} (h:s.e≤28):(leave s).e≤28:=by
 unfold leave
 split
 ·exact h
 ·split
  ·show 24≤28;decide
  ·split
   ·show 4≤28;decide
   ·exact h
theorem ask_e28 {s:Rd} {k tag least most:Int} (h:s.e≤28):(ask s k tag least most).1.e≤28:=by
 unfold ask
 split
 ·exact h
 split
 ·exact enter_e28 h
 split
 ·exact leave_e28 h
 split
 ·have:=next_e28 (tag:=0) h
  split
  ·rename_i hn;rw[hn] at this;exact this
  ·rename_i hn;rw[hn] at this;exact this
 ·have:=next_e28 (tag:=tagOf k) h
  split
  ·rename_i hn;rw[hn] at this;exact this
  ·rename_i hn
   rw[hn] at this
   split
   ·rename_i he;exact said_err28 he
   ·exact this
theorem fin_e28 {s:Rd} (h:s.e≤28):fin s≤28:=by
 unfold fin
 split
 ·exact h
 ·split
  ·decide
  ·split <;> decide
theorem start_e28 {b:List Nat}:(start b).e≤28:=by
 unfold start
 show (match Tl.levels b with
 |.error e=>e
 |.ok _=>0)≤28
 cases h:Tl.levels b with
 |error e=>exact levels_err28 h
 |ok n=>exact Nat.zero_le _
end De
end Go.Proofs.YtndkifkhdollgaaGreatDoor
namespace Go.Proofs.YtndkifkhdollgaaGreatDoor
open Lib (hid)
open Go.RowKit
def SaidO (v:Value) (b:List Nat) (R:Except Nat De.Val) (w w':World) (e:Ending):Prop:=w.grownBy w' none∧∃ (n:Int) (q:Bool) (a:Option Addr) (l c:Nat) (S:ByteArray),e=.returned (.tuple #[.agg #[.int .i64 0,.int .i64 n,.bool q,.slice a l c,.string S],.int .i64 (errNat R:Nat)]) ∧
 ∀ x,R=.ok x→x.kind=0∧x.n=n∧x.is=q∧x.t=strL S∧((x.b=[]∧Value.slice a l c=.slice none 0 0)∨(x.b=b∧Value.slice a l c=v))
theorem dr_one5 (k n:Int) (q:Bool) (a:Option Addr) (l c:Nat) (S:ByteArray):(#[.int .i64 k,.int .i64 n,.bool q,.slice a l c,.string S]:Array Value).all (·.oneCell')=true:=by simp[Value.oneCell']
theorem dr_grown {w W2 w3 w4:World} {oa oc:Obj} {D:Array Value} (hW:W2=(w.alloc oa).alloc oc) (hg:W2.grownBy w3 none) (h4:w4=w3.setRow (w.heap.size+1) D):w.grownBy w4 none:=by
 subst hW
 subst h4
 have hga:w.grownBy ((w.alloc oa).alloc oc) none:=grown_alloc (World.grownBy_alloc _ _ _) _
 have h1:=grown_trans hga hg
 have hs:=hg.size
 rw[alloc2_size] at hs
 exact ⟨h1.os,h1.tape,h1.output,by simp;exact h1.size,fun k hk hne=>by
  rw[setRow_other _ _ _ _ (by omega)];exact h1.block k hk hne⟩
theorem wget_err {l:List Nat} {k:Nat} (h:Wh.get l=.error k):k≠0:=by
 unfold Wh.get at h
 split at h
 ·cases h;decide
 ·split at h
  ·cases h;decide
  ·split at h
   ·cases h;decide
   ·cases h
theorem saidO_err {v:Value} {b:List Nat} {R:Except Nat De.Val} {k:Nat} {n:Int} {w w':World} (h:R=.error k) (hg:w.grownBy w' none) (q:Bool) (a:Option Addr) (l c:Nat) (S:ByteArray):SaidO v b R w w' (.returned (.tuple #[.agg #[.int .i64 0,.int .i64 n,.bool q,.slice a l c,.string S],.int .i64 (k:Nat)])):=by
 subst h
 exact ⟨hg,_,_,_,_,_,_,rfl,fun x h=>by cases h⟩
theorem refSaid_3 {w:World} (v:Value) (b:List Nat) (tag least most:Int) (hB:Bytes w v b) :
  Calls Tryz.prog 70 #[.agg #[.int .i64 3,.int .i64 tag,.int .i64 least,.int .i64 most],v] w fun e w'=>SaidO v b (De.said 3 least most b) w w' e:=by
 obtain ⟨R,hR⟩:∃ R,R=De.said 3 least most b:=⟨_,rfl⟩
 rw[←hR]
 unfold De.said at hR
 rw[if_pos (by decide)] at hR
 obtain ⟨W2,hW2⟩:∃ W2,W2=(w.alloc (.cells #[.int .i64 3,.int .i64 tag,.int .i64 least,.int .i64 most] 31)).alloc (.cells #[.int .i64 0,.int .i64 0,.bool false,.slice none 0 0,.string ⟨#[]⟩] 41):=⟨_,rfl⟩
 have hga:w.grownBy W2 none:=by rw[hW2];exact grown_alloc (World.grownBy_alloc _ _ _) _
 have b0:W2.heap[w.heap.size]?=some (.cells #[.int .i64 3,.int .i64 tag,.int .i64 least,.int .i64 most] 31 (0,0)):=by rw[hW2];exact alloc2_old _ _ _
 have b1:W2.heap[w.heap.size+1]?=some (.cells #[.int .i64 0,.int .i64 0,.bool false,.slice none 0 0,.string ⟨#[]⟩] 41 (0,0)):=by rw[hW2];exact alloc2_new _ _ _
 have hs2:W2.heap.size=w.heap.size+2:=by rw[hW2,alloc2_size]
 have HB3:Hid (∀ w3,W2.grownBy w3 none→w3.heap[w.heap.size+1]?=some (.cells #[.int .i64 0,.int .i64 0,.bool false,.slice none 0 0,.string ⟨#[]⟩] 41 (0,0))):=hid (fun w3 hg=>(hg.block _ (by omega) (by simp)).trans b1)
 have HA3:Hid (∀ w3,W2.grownBy w3 none→w3.heap[w.heap.size]?=some (.cells #[.int .i64 3,.int .i64 tag,.int .i64 least,.int .i64 most] 31 (0,0))):=hid (fun w3 hg=>(hg.block _ (by omega) (by simp)).trans b0)
 have HW2:=hid hW2
 have HI5:Hid ((Tryz.prog.info? 41).map (·.size)=some 5):=hid (by kernel_rfl)
 have hn:=refWGet_any v b W2 (hB.grown hga)
 have HG2:=hid (grown_refl W2 none)
 cases hw:Wh.get b with
 |error k =>
  rw[hw] at hR hn
  simp only at hR hn
  have hk:((k:Nat):Int)≠0:=by have:=wget_err hw;omega
  have HN:Hid (Calls Tryz.prog 124 #[v] W2 fun e w'=>e=.returned (.tuple #[.int .i64 0,.int .i64 (k:Nat)])∧W2.grownBy w' none):=hid (hn.mono (fun e w' h=>⟨h.2,by rw[h.1];exact grown_refl _ _⟩))
  have HR:=hid hR
  have c0:=cell_blk (HA3.out _ HG2.out) 0 rfl
  rw[hW2] at c0
  clear hn hw hR hB hga b0 b1 hs2 hW2
  go_enter Tryz.func70,Tryz.ntmps70
  go_wp2_with (first
   |(go_at_call 124;rw[←HW2.out];refine HN.out.mono ?_;rintro e w3 ⟨rfl,hg3⟩;have HG3:=hid hg3;have d0:=cell_blk (HA3.out _ hg3) 0 rfl;have d2:=cell_blk (HA3.out _ hg3) 2 rfl;have d3:=cell_blk (HA3.out _ hg3) 3 rfl;clear hg3)
   |(refine wpList_store_row (by rfl) 41 (.tmp 4) (.tmp 39) (by rfl) (w.heap.size+1) #[.int .i64 0,.int .i64 0,.bool false,.slice none 0 0,.string ⟨#[]⟩] (by rfl) (by rfl) _ _ (HB3.out _ HG3.out) HI5.out rfl (dr_one5 _ _ _ _ _ _ _) ?_;obtain ⟨w4,hw4⟩:∃ w4,w4=w3.setRow (w.heap.size+1) #[.int .i64 0,.int .i64 0,.bool false,.slice none 0 0,.string ⟨#[]⟩]:=⟨_,rfl⟩;rw[←hw4];have hb4:w4.heap[w.heap.size+1]?=some (.cells #[.int .i64 0,.int .i64 0,.bool false,.slice none 0 0,.string ⟨#[]⟩] 41 (0,0)):=(by rw[hw4];exact setRow_heap _ _ _ _ _ _ (HB3.out _ HG3.out));have HW4:=hid hw4;have HB4:=hid hb4;clear hw4 hb4))
  refine bodyPost_ret (v:=.tuple #[.agg #[.int .i64 0,.int .i64 0,.bool false,.slice none 0 0,.string ⟨#[]⟩],.int .i64 (k:Nat)]) ?_ rfl ?_
  ·exact results_rowT Tryz.results70 _ _ (w.heap.size+1) _ _ (0,0) _ _ rfl HB4.out Tryz.underlying41 rfl HI5.out rfl
  exact saidO_err HR.out (dr_grown HW2.out HG3.out HW4.out) _ _ _ _ _
 |ok n =>
  rw[hw] at hR hn
  simp only at hR hn
  have HN:Hid (Calls Tryz.prog 124 #[v] W2 fun e w'=>e=.returned (.tuple #[.int .i64 n,.int .i64 0])∧W2.grownBy w' none):=hid (hn.mono (fun e w' h=>⟨h.2,by rw[h.1];exact grown_refl _ _⟩))
  have c0:=cell_blk (HA3.out _ HG2.out) 0 rfl
  rw[hW2] at c0
  clear hn hw hB hga b0 b1 hs2 hW2
  by_cases h1:n<least
  ·rw[if_pos (.inl h1)] at hR
   have HR:=hid hR
   clear hR
   go_enter Tryz.func70,Tryz.ntmps70
   go_wp2_with (first
    |(go_at_call 124;rw[←HW2.out];refine HN.out.mono ?_;rintro e w3 ⟨rfl,hg3⟩;have HG3:=hid hg3;have d0:=cell_blk (HA3.out _ hg3) 0 rfl;have d2:=cell_blk (HA3.out _ hg3) 2 rfl;have d3:=cell_blk (HA3.out _ hg3) 3 rfl;clear hg3)
    |(refine wpList_store_row (by rfl) 41 (.tmp 4) (.tmp 39) (by rfl) (w.heap.size+1) #[.int .i64 0,.int .i64 n,.bool false,.slice none 0 0,.string ⟨#[]⟩] (by rfl) (by rfl) _ _ (HB3.out _ HG3.out) HI5.out rfl (dr_one5 _ _ _ _ _ _ _) ?_;obtain ⟨w4,hw4⟩:∃ w4,w4=w3.setRow (w.heap.size+1) #[.int .i64 0,.int .i64 n,.bool false,.slice none 0 0,.string ⟨#[]⟩]:=⟨_,rfl⟩;rw[←hw4];have hb4:w4.heap[w.heap.size+1]?=some (.cells #[.int .i64 0,.int .i64 n,.bool false,.slice none 0 0,.string ⟨#[]⟩] 41 (0,0)):=(by rw[hw4];exact setRow_heap _ _ _ _ _ _ (HB3.out _ HG3.out));have HW4:=hid hw4;have HB4:=hid hb4;clear hw4 hb4))
   refine bodyPost_ret (v:=.tuple #[.agg #[.int .i64 0,.int .i64 n,.bool false,.slice none 0 0,.string ⟨#[]⟩],.int .i64 1]) ?_ rfl ?_
   ·exact results_rowT Tryz.results70 _ _ (w.heap.size+1) _ _ (0,0) _ _ rfl HB4.out Tryz.underlying41 rfl HI5.out rfl
   exact saidO_err HR.out (dr_grown HW2.out HG3.out HW4.out) _ _ _ _ _
  by_cases h2:most<n
  ·rw[if_pos (.inr h2)] at hR
   have HR:=hid hR
   clear hR
   go_enter Tryz.func70,Tryz.ntmps70
   go_wp2_with (first
    |(go_at_call 124;rw[←HW2.out];refine HN.out.mono ?_;rintro e w3 ⟨rfl,hg3⟩;have HG3:=hid hg3;have d0:=cell_blk (HA3.out _ hg3) 0 rfl;have d2:=cell_blk (HA3.out _ hg3) 2 rfl;have d3:=cell_blk (HA3.out _ hg3) 3 rfl;clear hg3)
    |(refine wpList_store_row (by rfl) 41 (.tmp 4) (.tmp 39) (by rfl) (w.heap.size+1) #[.int .i64 0,.int .i64 n,.bool false,.slice none 0 0,.string ⟨#[]⟩] (by rfl) (by rfl) _ _ (HB3.out _ HG3.out) HI5.out rfl (dr_one5 _ _ _ _ _ _ _) ?_;obtain ⟨w4,hw4⟩:∃ w4,w4=w3.setRow (w.heap.size+1) #[.int .i64 0,.int .i64 n,.bool false,.slice none 0 0,.string ⟨#[]⟩]:=⟨_,rfl⟩;rw[←hw4];have hb4:w4.heap[w.heap.size+1]?=some (.cells #[.int .i64 0,.int .i64 n,.bool false,.slice none 0 0,.string ⟨#[]⟩] 41 (0,0)):=(by rw[hw4];exact setRow_heap _ _ _ _ _ _ (HB3.out _ HG3.out));have HW4:=hid hw4;have HB4:=hid hb4;clear hw4 hb4))
   refine bodyPost_ret (v:=.tuple #[.agg #[.int .i64 0,.int .i64 n,.bool false,.slice none 0 0,.string ⟨#[]⟩],.int .i64 1]) ?_ rfl ?_
   ·exact results_rowT Tryz.results70 _ _ (w.heap.size+1) _ _ (0,0) _ _ rfl HB4.out Tryz.underlying41 rfl HI5.out rfl
   exact saidO_err HR.out (dr_grown HW2.out HG3.out HW4.out) _ _ _ _ _
  rw[if_neg (by omega)] at hR
  have HR:=hid hR
  clear hR
  go_enter Tryz.func70,Tryz.ntmps70
  go_wp2_with (first
   |(go_at_call 124;rw[←HW2.out];refine HN.out.mono ?_;rintro e w3 ⟨rfl,hg3⟩;have HG3:=hid hg3;have d0:=cell_blk (HA3.out _ hg3) 0 rfl;have d2:=cell_blk (HA3.out _ hg3) 2 rfl;have d3:=cell_blk (HA3.out _ hg3) 3 rfl;clear hg3)
   |(refine wpList_store_row (by rfl) 41 (.tmp 4) (.tmp 39) (by rfl) (w.heap.size+1) #[.int .i64 0,.int .i64 n,.bool false,.slice none 0 0,.string ⟨#[]⟩] (by rfl) (by rfl) _ _ (HB3.out _ HG3.out) HI5.out rfl (dr_one5 _ _ _ _ _ _ _) ?_;obtain ⟨w4,hw4⟩:∃ w4,w4=w3.setRow (w.heap.size+1) #[.int .i64 0,.int .i64 n,.bool false,.slice none 0 0,.string ⟨#[]⟩]:=⟨_,rfl⟩;rw[←hw4];have hb4:w4.heap[w.heap.size+1]?=some (.cells #[.int .i64 0,.int .i64 n,.bool false,.slice none 0 0,.string ⟨#[]⟩] 41 (0,0)):=(by rw[hw4];exact setRow_heap _ _ _ _ _ _ (HB3.out _ HG3.out));have HW4:=hid hw4;have HB4:=hid hb4;clear hw4 hb4))
  refine bodyPost_ret (v:=.tuple #[.agg #[.int .i64 0,.int .i64 n,.bool false,.slice none 0 0,.string ⟨#[]⟩],.int .i64 0]) ?_ rfl ?_
  ·exact results_rowT Tryz.results70 _ _ (w.heap.size+1) _ _ (0,0) _ _ rfl HB4.out Tryz.underlying41 rfl HI5.out rfl
  rw[HR.out]
  exact ⟨dr_grown HW2.out HG3.out HW4.out,_,_,_,_,_,_,rfl,fun x h=>by cases h;exact ⟨rfl,rfl,rfl,rfl,.inl ⟨rfl,rfl⟩⟩⟩
theorem refSaid_4 {w:World} (v:Value) (b:List Nat) (tag least most:Int) (hB:Bytes w v b) :
  Calls Tryz.prog 70 #[.agg #[.int .i64 4,.int .i64 tag,.int .i64 least,.int .i64 most],v] w fun e w'=>SaidO v b (De.said 4 least most b) w w' e:=by
 obtain ⟨R,hR⟩:∃ R,R=De.said 4 least most b:=⟨_,rfl⟩
 rw[←hR]
 unfold De.said at hR
 rw[if_pos (by decide)] at hR
 obtain ⟨W2,hW2⟩:∃ W2,W2=(w.alloc (.cells #[.int .i64 4,.int .i64 tag,.int .i64 least,.int .i64 most] 31)).alloc (.cells #[.int .i64 0,.int .i64 0,.bool false,.slice none 0 0,.string ⟨#[]⟩] 41):=⟨_,rfl⟩
 have hga:w.grownBy W2 none:=by rw[hW2];exact grown_alloc (World.grownBy_alloc _ _ _) _
 have b0:W2.heap[w.heap.size]?=some (.cells #[.int .i64 4,.int .i64 tag,.int .i64 least,.int .i64 most] 31 (0,0)):=by rw[hW2];exact alloc2_old _ _ _
 have b1:W2.heap[w.heap.size+1]?=some (.cells #[.int .i64 0,.int .i64 0,.bool false,.slice none 0 0,.string ⟨#[]⟩] 41 (0,0)):=by rw[hW2];exact alloc2_new _ _ _
 have hs2:W2.heap.size=w.heap.size+2:=by rw[hW2,alloc2_size]
 have HB3:Hid (∀ w3,W2.grownBy w3 none→w3.heap[w.heap.size+1]?=some (.cells #[.int .i64 0,.int .i64 0,.bool false,.slice none 0 0,.string ⟨#[]⟩] 41 (0,0))):=hid (fun w3 hg=>(hg.block _ (by omega) (by simp)).trans b1)
 have HA3:Hid (∀ w3,W2.grownBy w3 none→w3.heap[w.heap.size]?=some (.cells #[.int .i64 4,.int .i64 tag,.int .i64 least,.int .i64 most] 31 (0,0))):=hid (fun w3 hg=>(hg.block _ (by omega) (by simp)).trans b0)
 have HW2:=hid hW2
 have HI5:Hid ((Tryz.prog.info? 41).map (·.size)=some 5):=hid (by kernel_rfl)
 have hn:=refWGet_any v b W2 (hB.grown hga)
 have HG2:=hid (grown_refl W2 none)
 cases hw:Wh.get b with
 |error k =>
  rw[hw] at hR hn
  simp only at hR hn
  have hk:((k:Nat):Int)≠0:=by have:=wget_err hw;omega
  have HN:Hid (Calls Tryz.prog 124 #[v] W2 fun e w'=>e=.returned (.tuple #[.int .i64 0,.int .i64 (k:Nat)])∧W2.grownBy w' none):=hid (hn.mono (fun e w' h=>⟨h.2,by rw[h.1];exact grown_refl _ _⟩))
  have HR:=hid hR
  have c0:=cell_blk (HA3.out _ HG2.out) 0 rfl
  rw[hW2] at c0
  clear hn hw hR hB hga b0 b1 hs2 hW2
  go_enter Tryz.func70,Tryz.ntmps70
  go_wp2_with (first
   |(go_at_call 124;rw[←HW2.out];refine HN.out.mono ?_;rintro e w3 ⟨rfl,hg3⟩;have HG3:=hid hg3;have d0:=cell_blk (HA3.out _ hg3) 0 rfl;have d2:=cell_blk (HA3.out _ hg3) 2 rfl;have d3:=cell_blk (HA3.out _ hg3) 3 rfl;clear hg3)
   |(refine wpList_store_row (by rfl) 41 (.tmp 4) (.tmp 39) (by rfl) (w.heap.size+1) #[.int .i64 0,.int .i64 0,.bool false,.slice none 0 0,.string ⟨#[]⟩] (by rfl) (by rfl) _ _ (HB3.out _ HG3.out) HI5.out rfl (dr_one5 _ _ _ _ _ _ _) ?_;obtain ⟨w4,hw4⟩:∃ w4,w4=w3.setRow (w.heap.size+1) #[.int .i64 0,.int .i64 0,.bool false,.slice none 0 0,.string ⟨#[]⟩]:=⟨_,rfl⟩;rw[←hw4];have hb4:w4.heap[w.heap.size+1]?=some (.cells #[.int .i64 0,.int .i64 0,.bool false,.slice none 0 0,.string ⟨#[]⟩] 41 (0,0)):=(by rw[hw4];exact setRow_heap _ _ _ _ _ _ (HB3.out _ HG3.out));have HW4:=hid hw4;have HB4:=hid hb4;clear hw4 hb4))
  refine bodyPost_ret (v:=.tuple #[.agg #[.int .i64 0,.int .i64 0,.bool false,.slice none 0 0,.string ⟨#[]⟩],.int .i64 (k:Nat)]) ?_ rfl ?_
  ·exact results_rowT Tryz.results70 _ _ (w.heap.size+1) _ _ (0,0) _ _ rfl HB4.out Tryz.underlying41 rfl HI5.out rfl
  exact saidO_err HR.out (dr_grown HW2.out HG3.out HW4.out) _ _ _ _ _
 |ok n =>
  rw[hw] at hR hn
  simp only at hR hn
  have HN:Hid (Calls Tryz.prog 124 #[v] W2 fun e w'=>e=.returned (.tuple #[.int .i64 n,.int .i64 0])∧W2.grownBy w' none):=hid (hn.mono (fun e w' h=>⟨h.2,by rw[h.1];exact grown_refl _ _⟩))
  have c0:=cell_blk (HA3.out _ HG2.out) 0 rfl
  rw[hW2] at c0
  clear hn hw hB hga b0 b1 hs2 hW2
  by_cases h1:n<least
  ·rw[if_pos (.inl h1)] at hR
   have HR:=hid hR
   clear hR
   go_enter Tryz.func70,Tryz.ntmps70
   go_wp2_with (first
    |(go_at_call 124;rw[←HW2.out];refine HN.out.mono ?_;rintro e w3 ⟨rfl,hg3⟩;have HG3:=hid hg3;have d0:=cell_blk (HA3.out _ hg3) 0 rfl;have d2:=cell_blk (HA3.out _ hg3) 2 rfl;have d3:=cell_blk (HA3.out _ hg3) 3 rfl;clear hg3)
    |(refine wpList_store_row (by rfl) 41 (.tmp 4) (.tmp 39) (by rfl) (w.heap.size+1) #[.int .i64 0,.int .i64 n,.bool false,.slice none 0 0,.string ⟨#[]⟩] (by rfl) (by rfl) _ _ (HB3.out _ HG3.out) HI5.out rfl (dr_one5 _ _ _ _ _ _ _) ?_;obtain ⟨w4,hw4⟩:∃ w4,w4=w3.setRow (w.heap.size+1) #[.int .i64 0,.int .i64 n,.bool false,.slice none 0 0,.string ⟨#[]⟩]:=⟨_,rfl⟩;rw[←hw4];have hb4:w4.heap[w.heap.size+1]?=some (.cells #[.int .i64 0,.int .i64 n,.bool false,.slice none 0 0,.string ⟨#[]⟩] 41 (0,0)):=(by rw[hw4];exact setRow_heap _ _ _ _ _ _ (HB3.out _ HG3.out));have HW4:=hid hw4;have HB4:=hid hb4;clear hw4 hb4))
   refine bodyPost_ret (v:=.tuple #[.agg #[.int .i64 0,.int .i64 n,.bool false,.slice none 0 0,.string ⟨#[]⟩],.int .i64 1]) ?_ rfl ?_
   ·exact results_rowT Tryz.results70 _ _ (w.heap.size+1) _ _ (0,0) _ _ rfl HB4.out Tryz.underlying41 rfl HI5.out rfl
   exact saidO_err HR.out (dr_grown HW2.out HG3.out HW4.out) _ _ _ _ _
  by_cases h2:most<n
  ·rw[if_pos (.inr h2)] at hR
   have HR:=hid hR
   clear hR
   go_enter Tryz.func70,Tryz.ntmps70
   go_wp2_with (first
    |(go_at_call 124;rw[←HW2.out];refine HN.out.mono ?_;rintro e w3 ⟨rfl,hg3⟩;have HG3:=hid hg3;have d0:=cell_blk (HA3.out _ hg3) 0 rfl;have d2:=cell_blk (HA3.out _ hg3) 2 rfl;have d3:=cell_blk (HA3.out _ hg3) 3 rfl;clear hg3)
    |(refine wpList_store_row (by rfl) 41 (.tmp 4) (.tmp 39) (by rfl) (w.heap.size+1) #[.int .i64 0,.int .i64 n,.bool false,.slice none 0 0,.string ⟨#[]⟩] (by rfl) (by rfl) _ _ (HB3.out _ HG3.out) HI5.out rfl (dr_one5 _ _ _ _ _ _ _) ?_;obtain ⟨w4,hw4⟩:∃ w4,w4=w3.setRow (w.heap.size+1) #[.int .i64 0,.int .i64 n,.bool false,.slice none 0 0,.string ⟨#[]⟩]:=⟨_,rfl⟩;rw[←hw4];have hb4:w4.heap[w.heap.size+1]?=some (.cells #[.int .i64 0,.int .i64 n,.bool false,.slice none 0 0,.string ⟨#[]⟩] 41 (0,0)):=(by rw[hw4];exact setRow_heap _ _ _ _ _ _ (HB3.out _ HG3.out));have HW4:=hid hw4;have HB4:=hid hb4;clear hw4 hb4))
   refine bodyPost_ret (v:=.tuple #[.agg #[.int .i64 0,.int .i64 n,.bool false,.slice none 0 0,.string ⟨#[]⟩],.int .i64 1]) ?_ rfl ?_
   ·exact results_rowT Tryz.results70 _ _ (w.heap.size+1) _ _ (0,0) _ _ rfl HB4.out Tryz.underlying41 rfl HI5.out rfl
   exact saidO_err HR.out (dr_grown HW2.out HG3.out HW4.out) _ _ _ _ _
  rw[if_neg (by omega)] at hR
  have HR:=hid hR
  clear hR
  go_enter Tryz.func70,Tryz.ntmps70
  go_wp2_with (first
   |(go_at_call 124;rw[←HW2.out];refine HN.out.mono ?_;rintro e w3 ⟨rfl,hg3⟩;have HG3:=hid hg3;have d0:=cell_blk (HA3.out _ hg3) 0 rfl;have d2:=cell_blk (HA3.out _ hg3) 2 rfl;have d3:=cell_blk (HA3.out _ hg3) 3 rfl;clear hg3)
   |(refine wpList_store_row (by rfl) 41 (.tmp 4) (.tmp 39) (by rfl) (w.heap.size+1) #[.int .i64 0,.int .i64 n,.bool false,.slice none 0 0,.string ⟨#[]⟩] (by rfl) (by rfl) _ _ (HB3.out _ HG3.out) HI5.out rfl (dr_one5 _ _ _ _ _ _ _) ?_;obtain ⟨w4,hw4⟩:∃ w4,w4=w3.setRow (w.heap.size+1) #[.int .i64 0,.int .i64 n,.bool false,.slice none 0 0,.string ⟨#[]⟩]:=⟨_,rfl⟩;rw[←hw4];have hb4:w4.heap[w.heap.size+1]?=some (.cells #[.int .i64 0,.int .i64 n,.bool false,.slice none 0 0,.string ⟨#[]⟩] 41 (0,0)):=(by rw[hw4];exact setRow_heap _ _ _ _ _ _ (HB3.out _ HG3.out));have HW4:=hid hw4;have HB4:=hid hb4;clear hw4 hb4))
  refine bodyPost_ret (v:=.tuple #[.agg #[.int .i64 0,.int .i64 n,.bool false,.slice none 0 0,.string ⟨#[]⟩],.int .i64 0]) ?_ rfl ?_
  ·exact results_rowT Tryz.results70 _ _ (w.heap.size+1) _ _ (0,0) _ _ rfl HB4.out Tryz.underlying41 rfl HI5.out rfl
  rw[HR.out]
  exact ⟨dr_grown HW2.out HG3.out HW4.out,_,_,_,_,_,_,rfl,fun x h=>by cases h;exact ⟨rfl,rfl,rfl,rfl,.inl ⟨rfl,rfl⟩⟩⟩
theorem build1c_val {P:Program} {a:Act} {o:Oper} {w:World} {t:TypeId} {x:Operand} {k:Nat} {p v:Value} (ho:o.op=.build t #[(k,x)]) (hx:a.eval x=p) (h:(Instr.build t #[(k,p)]).run P w=.ok v w):(execOp a.eval o).run P w=.ok (.value v) w:=by
 simp only[execOp,ho,List.map_toArray,List.map_cons,List.map_nil,hx]
 simp[Result.andThen,h]
noncomputable def sd_regionC:Code:=regionIn Tryz.f70.body 21
theorem sd_region (a:Act) (v:Value) (g:Nat) (S:ByteArray) (n:Int) (k:Nat) (W w:World) (Q:Exit→Act→World→Prop) (hsz:a.tmps.size=126)
  (h1:a.eval (.tmp 1)=v) (h2:a.eval (.tmp 2)=.pointer (some ⟨g,0,none⟩)) (h4:a.eval (.tmp 4)=.pointer (some ⟨g+1,0,none⟩))
  (hcv:∀ w,W.grownBy w none→(convert 22 9 v).run Tryz.prog w=.ok (.string S) w)
  (hF3:∀ w,(Instr.fieldAt 31 (.pointer (some ⟨g,0,none⟩)) 3).run Tryz.prog w=.ok (.pointer (some ⟨g,3,none⟩)) w)
  (hL3:∀ w,W.grownBy w none→(Instr.loadAt 3 (.pointer (some ⟨g,3,none⟩))).run Tryz.prog w=.ok (.int .i64 n) w)
  (hA:∀ w,Calls Tryz.prog 125 #[.string S,.int .i64 n] w fun e w'=>e=.returned (.int .i64 (k:Int))∧w'=w)
  (hB:∀ w,W.grownBy w none→w.heap[g+1]?=some (.cells #[.int .i64 0,.int .i64 0,.bool false,.slice none 0 0,.string ⟨#[]⟩] 41 (0,0)))
  (hI5:(Tryz.prog.info? 41).map (·.size)=some 5)
  (hw:W.grownBy { w with drawn:=w.drawn+1 } none)
  (hQ:∀ us w',W.grownBy w' none→Q .normal ((fill a [86,87,88,89,90,91,92,93] us).put (some 5) (.int .i64 (k:Int))) (w'.setRow (g+1) #[.int .i64 0,.int .i64 0,.bool false,.slice none 0 0,.string S])):sd_regionC.wp Tryz.prog Q a w:=by
 have hst:StaysAll [isV v,isV (.string S),isV (.agg #[.int .i64 0,.int .i64 0,.bool false,.slice none 0 0,.string S]),isV v,isV (.string S),isV (.pointer (some ⟨g,3,none⟩)),isV (.int .i64 n),isV (.int .i64 (k:Int))]:=⟨stays_V _,stays_V _,stays_V _,stays_V _,stays_V _,stays_V _,stays_V _,stays_V _,trivial⟩
 conv=>arg 2;whnf
 refine wp_region_flow 8 [86,87,88,89,90,91,92,93] (fun w'=>W.grownBy w' none) (fun w w'=>w.grownBy w' none) (flF [isV v,isV (.string S),isV (.agg #[.int .i64 0,.int .i64 0,.bool false,.slice none 0 0,.string S]),isV v,isV (.string S),isV (.pointer (some ⟨g,3,none⟩)),isV (.int .i64 n),isV (.int .i64 (k:Int))]) (by kernel_rfl) (by kernel_rfl) (fun _ _ h k=>grown_trans k h) (fun j x w w' hg h=>flF_stays hst j x w w' hg h) hw ?_ ?_
 ·refine ⟨?_,?_,?_,?_,?_,?_,?_,?_,trivial⟩
  ·exact flow_step (fun us w hC hd=>wants_free rfl) (fun us w hC hd=>⟨_,w,move_val rfl ((fill_old (by rfl)).trans h1),grown_refl _ _,rfl⟩)
  ·exact flow_step (fun us w hC hd=>wants_free rfl) (fun us w hC hd=>⟨_,w,conv_val rfl ((fill_tmp (by rfl) (by rw[hsz];decide)).trans (hd 0 (by decide))) (hcv w hC),grown_refl _ _,rfl⟩)
  ·exact flow_step (fun us w hC hd=>wants_free rfl) (fun us w hC hd=>⟨_,w,build1c_val rfl ((fill_tmp (by rfl) (by rw[hsz];decide)).trans (hd 1 (by decide))) (by simp[go_sem]),grown_refl _ _,rfl⟩)
  ·exact flow_step (fun us w hC hd=>wants_free rfl) (fun us w hC hd=>⟨_,w,move_val rfl ((fill_old (by rfl)).trans h1),grown_refl _ _,rfl⟩)
  ·exact flow_step (fun us w hC hd=>wants_free rfl) (fun us w hC hd=>⟨_,w,conv_val rfl ((fill_tmp (by rfl) (by rw[hsz];decide)).trans (hd 3 (by decide))) (hcv w hC),grown_refl _ _,rfl⟩)
  ·exact flow_step (fun us w hC hd=>wants_free rfl) (fun us w hC hd=>⟨_,w,fieldc_val rfl ((fill_old (by rfl)).trans h2) (hF3 w),grown_refl _ _,rfl⟩)
  ·exact flow_step (fun us w hC hd=>wants_free rfl) (fun us w hC hd=>⟨_,w,loadc_val rfl ((fill_tmp (by rfl) (by rw[hsz];decide)).trans (hd 5 (by decide))) (hL3 w hC),grown_refl _ _,rfl⟩)
  ·refine flow_call 125 (fun us=>#[us 90,us 92]) (fun us w hC hd=>wants_free rfl) (fun us w=>by rw[call_enter rfl (fun _ _=>by simp[go_sem]),List.map_toArray,List.map_cons,List.map_cons,List.map_nil,fill_tmp (by rfl) (by rw[hsz];decide),fill_tmp (by rfl) (by rw[hsz];decide)]) (fun us w hC' hd=>?_)
   rw[show us 90=.string S from hd 4 (by decide)]
   rw[show us 92=.int .i64 n from hd 6 (by decide)]
   exact (hA w).mono (by rintro e w' ⟨rfl,h⟩;rw[h];exact ⟨_,rfl,grown_refl _ _,rfl⟩)
 ·intro us w' hC' hd
  refine wpList_store_row (by rfl) 41 (.tmp 4) (.tmp 88) (by rfl) (g+1) #[.int .i64 0,.int .i64 0,.bool false,.slice none 0 0,.string S] ((fill_old (by rfl)).trans h4) ((fill_tmp (by rfl) (by rw[hsz];decide)).trans (hd 2 (by decide))) _ _ (hB w' hC') hI5 rfl (dr_one5 _ _ _ _ _ _ _) ?_
  exact wpList_last rfl (assign_val rfl ((fill_tmp (by rfl) (by rw[hsz];decide)).trans (hd 7 (by decide)))) (hQ us w' hC')
theorem refSaid_6 {w:World} (v:Value) (b:List Nat) (tag least most:Int) (hB:Bytes w v b) :
  Calls Tryz.prog 70 #[.agg #[.int .i64 6,.int .i64 tag,.int .i64 least,.int .i64 most],v] w fun e w'=>SaidO v b (De.said 6 least most b) w w' e:=by
 obtain ⟨R,hR⟩:∃ R,R=De.said 6 least most b:=⟨_,rfl⟩
 rw[←hR]
 unfold De.said at hR
 rw[if_neg (by decide),if_neg (by decide),if_pos rfl] at hR
 obtain ⟨W2,hW2⟩:∃ W2,W2=(w.alloc (.cells #[.int .i64 6,.int .i64 tag,.int .i64 least,.int .i64 most] 31)).alloc (.cells #[.int .i64 0,.int .i64 0,.bool false,.slice none 0 0,.string ⟨#[]⟩] 41):=⟨_,rfl⟩
 have hga:w.grownBy W2 none:=by rw[hW2];exact grown_alloc (World.grownBy_alloc _ _ _) _
 have b0:W2.heap[w.heap.size]?=some (.cells #[.int .i64 6,.int .i64 tag,.int .i64 least,.int .i64 most] 31 (0,0)):=by rw[hW2];exact alloc2_old _ _ _
 have b1:W2.heap[w.heap.size+1]?=some (.cells #[.int .i64 0,.int .i64 0,.bool false,.slice none 0 0,.string ⟨#[]⟩] 41 (0,0)):=by rw[hW2];exact alloc2_new _ _ _
 have hs2:W2.heap.size=w.heap.size+2:=by rw[hW2,alloc2_size]
 have HB3:Hid (∀ w3,W2.grownBy w3 none→w3.heap[w.heap.size+1]?=some (.cells #[.int .i64 0,.int .i64 0,.bool false,.slice none 0 0,.string ⟨#[]⟩] 41 (0,0))):=hid (fun w3 hg=>(hg.block _ (by omega) (by simp)).trans b1)
 have HA3:Hid (∀ w3,W2.grownBy w3 none→w3.heap[w.heap.size]?=some (.cells #[.int .i64 6,.int .i64 tag,.int .i64 least,.int .i64 most] 31 (0,0))):=hid (fun w3 hg=>(hg.block _ (by omega) (by simp)).trans b0)
 have HW2:=hid hW2
 have HI5:Hid ((Tryz.prog.info? 41).map (·.size)=some 5):=hid (by kernel_rfl)
 have HG2:=hid (grown_refl W2 none)
 obtain ⟨_,va,_,_,vc,rfl,_⟩:=hB
 obtain ⟨n,hn⟩:∃ n,n=b.length:=⟨_,rfl⟩
 rw[←hn] at hR ⊢
 have c0:=cell_blk (HA3.out _ HG2.out) 0 rfl
 have c2:=cell_blk (HA3.out _ HG2.out) 2 rfl
 have c3:=cell_blk (HA3.out _ HG2.out) 3 rfl
 rw[hW2] at c0 c2 c3
 clear hga b0 b1 hs2 hW2 hn
 by_cases h1:(n:Int)<least
 ·rw[if_pos h1] at hR
  have HR:=hid hR
  clear hR
  go_enter Tryz.func70,Tryz.ntmps70
  go_wp2_with (rw[←HW2.out];refine wpList_store_row (by rfl) 41 (.tmp 4) (.tmp 75) (by rfl) (w.heap.size+1) #[.int .i64 0,.int .i64 0,.bool false,.slice none 0 0,.string ⟨#[]⟩] (by rfl) (by rfl) _ _ (HB3.out _ HG2.out) HI5.out rfl (dr_one5 _ _ _ _ _ _ _) ?_;obtain ⟨w4,hw4⟩:∃ w4,w4=W2.setRow (w.heap.size+1) #[.int .i64 0,.int .i64 0,.bool false,.slice none 0 0,.string ⟨#[]⟩]:=⟨_,rfl⟩;rw[←hw4];have hb4:w4.heap[w.heap.size+1]?=some (.cells #[.int .i64 0,.int .i64 0,.bool false,.slice none 0 0,.string ⟨#[]⟩] 41 (0,0)):=(by rw[hw4];exact setRow_heap _ _ _ _ _ _ (HB3.out _ HG2.out));have HW4:=hid hw4;have HB4:=hid hb4;clear hw4 hb4)
  refine bodyPost_ret (v:=.tuple #[.agg #[.int .i64 0,.int .i64 0,.bool false,.slice none 0 0,.string ⟨#[]⟩],.int .i64 2]) ?_ rfl ?_
  ·exact results_rowT Tryz.results70 _ _ (w.heap.size+1) _ _ (0,0) _ _ rfl HB4.out Tryz.underlying41 rfl HI5.out rfl
  exact saidO_err HR.out (dr_grown HW2.out HG2.out HW4.out) _ _ _ _ _
 rw[if_neg h1] at hR
 by_cases h2:most<(n:Int)
 ·rw[if_pos h2] at hR
  have HR:=hid hR
  clear hR
  go_enter Tryz.func70,Tryz.ntmps70
  go_wp2_with (rw[←HW2.out];refine wpList_store_row (by rfl) 41 (.tmp 4) (.tmp 81) (by rfl) (w.heap.size+1) #[.int .i64 0,.int .i64 0,.bool false,.slice none 0 0,.string ⟨#[]⟩] (by rfl) (by rfl) _ _ (HB3.out _ HG2.out) HI5.out rfl (dr_one5 _ _ _ _ _ _ _) ?_;obtain ⟨w4,hw4⟩:∃ w4,w4=W2.setRow (w.heap.size+1) #[.int .i64 0,.int .i64 0,.bool false,.slice none 0 0,.string ⟨#[]⟩]:=⟨_,rfl⟩;rw[←hw4];have hb4:w4.heap[w.heap.size+1]?=some (.cells #[.int .i64 0,.int .i64 0,.bool false,.slice none 0 0,.string ⟨#[]⟩] 41 (0,0)):=(by rw[hw4];exact setRow_heap _ _ _ _ _ _ (HB3.out _ HG2.out));have HW4:=hid hw4;have HB4:=hid hb4;clear hw4 hb4)
  refine bodyPost_ret (v:=.tuple #[.agg #[.int .i64 0,.int .i64 0,.bool false,.slice none 0 0,.string ⟨#[]⟩],.int .i64 3]) ?_ rfl ?_
  ·exact results_rowT Tryz.results70 _ _ (w.heap.size+1) _ _ (0,0) _ _ rfl HB4.out Tryz.underlying41 rfl HI5.out rfl
  exact saidO_err HR.out (dr_grown HW2.out HG2.out HW4.out) _ _ _ _ _
 rw[if_neg h2] at hR
 have HR:=hid hR
 clear hR
 go_enter Tryz.func70,Tryz.ntmps70
 go_wp2_with (rw[←HW2.out];refine wpList_store_row (by rfl) 41 (.tmp 4) (.tmp 83) (by rfl) (w.heap.size+1) #[.int .i64 0,.int .i64 0,.bool false,.slice va n vc,.string ⟨#[]⟩] (by rfl) (by rfl) _ _ (HB3.out _ HG2.out) HI5.out rfl (dr_one5 _ _ _ _ _ _ _) ?_;obtain ⟨w4,hw4⟩:∃ w4,w4=W2.setRow (w.heap.size+1) #[.int .i64 0,.int .i64 0,.bool false,.slice va n vc,.string ⟨#[]⟩]:=⟨_,rfl⟩;rw[←hw4];have hb4:w4.heap[w.heap.size+1]?=some (.cells #[.int .i64 0,.int .i64 0,.bool false,.slice va n vc,.string ⟨#[]⟩] 41 (0,0)):=(by rw[hw4];exact setRow_heap _ _ _ _ _ _ (HB3.out _ HG2.out));have HW4:=hid hw4;have HB4:=hid hb4;clear hw4 hb4)
 refine bodyPost_ret (v:=.tuple #[.agg #[.int .i64 0,.int .i64 0,.bool false,.slice va n vc,.string ⟨#[]⟩],.int .i64 0]) ?_ rfl ?_
 ·exact results_rowT Tryz.results70 _ _ (w.heap.size+1) _ _ (0,0) _ _ rfl HB4.out Tryz.underlying41 rfl HI5.out rfl
 rw[HR.out]
 exact ⟨dr_grown HW2.out HG2.out HW4.out,_,_,_,_,_,_,rfl,fun x h=>by cases h;exact ⟨rfl,rfl,rfl,rfl,.inr ⟨rfl,rfl⟩⟩⟩
theorem refSaid_5 {w:World} (v:Value) (b:List Nat) (tag least most:Int) (hB:Bytes w v b) :
  Calls Tryz.prog 70 #[.agg #[.int .i64 5,.int .i64 tag,.int .i64 least,.int .i64 most],v] w fun e w'=>SaidO v b (De.said 5 least most b) w w' e:=by
 obtain ⟨R,hR⟩:∃ R,R=De.said 5 least most b:=⟨_,rfl⟩
 rw[←hR]
 unfold De.said at hR
 rw[if_neg (by decide),if_pos rfl] at hR
 obtain ⟨W2,hW2⟩:∃ W2,W2=(w.alloc (.cells #[.int .i64 5,.int .i64 tag,.int .i64 least,.int .i64 most] 31)).alloc (.cells #[.int .i64 0,.int .i64 0,.bool false,.slice none 0 0,.string ⟨#[]⟩] 41):=⟨_,rfl⟩
 have hga:w.grownBy W2 none:=by rw[hW2];exact grown_alloc (World.grownBy_alloc _ _ _) _
 have b0:W2.heap[w.heap.size]?=some (.cells #[.int .i64 5,.int .i64 tag,.int .i64 least,.int .i64 most] 31 (0,0)):=by rw[hW2];exact alloc2_old _ _ _
 have b1:W2.heap[w.heap.size+1]?=some (.cells #[.int .i64 0,.int .i64 0,.bool false,.slice none 0 0,.string ⟨#[]⟩] 41 (0,0)):=by rw[hW2];exact alloc2_new _ _ _
 have hs2:W2.heap.size=w.heap.size+2:=by rw[hW2,alloc2_size]
 have HB3:Hid (∀ w3,W2.grownBy w3 none→w3.heap[w.heap.size+1]?=some (.cells #[.int .i64 0,.int .i64 0,.bool false,.slice none 0 0,.string ⟨#[]⟩] 41 (0,0))):=hid (fun w3 hg=>(hg.block _ (by omega) (by simp)).trans b1)
 have HA3:Hid (∀ w3,W2.grownBy w3 none→w3.heap[w.heap.size]?=some (.cells #[.int .i64 5,.int .i64 tag,.int .i64 least,.int .i64 most] 31 (0,0))):=hid (fun w3 hg=>(hg.block _ (by omega) (by simp)).trans b0)
 have HW2:=hid hW2
 have HI5:Hid ((Tryz.prog.info? 41).map (·.size)=some 5):=hid (by kernel_rfl)
 have HG2:=hid (grown_refl W2 none)
 obtain ⟨hlt,va,sb,so,vc,rfl,hvc,ha,hcell⟩:=hB
 have c0:=cell_blk (HA3.out _ HG2.out) 0 rfl
 rw[hW2] at c0
 rcases Nat.eq_zero_or_pos b.length with hz|hp
 ·rw[if_pos hz] at hR
  have HR:=hid hR
  rw[hz]
  clear hga b0 b1 hs2 hW2 hR hz ha hcell
  go_enter Tryz.func70,Tryz.ntmps70
  go_wp2_with (rw[←HW2.out];refine wpList_store_row (by rfl) 41 (.tmp 4) (.tmp 46) (by rfl) (w.heap.size+1) #[.int .i64 0,.int .i64 0,.bool false,.slice none 0 0,.string ⟨#[]⟩] (by rfl) (by rfl) _ _ (HB3.out _ HG2.out) HI5.out rfl (dr_one5 _ _ _ _ _ _ _) ?_;obtain ⟨w4,hw4⟩:∃ w4,w4=W2.setRow (w.heap.size+1) #[.int .i64 0,.int .i64 0,.bool false,.slice none 0 0,.string ⟨#[]⟩]:=⟨_,rfl⟩;rw[←hw4];have hb4:w4.heap[w.heap.size+1]?=some (.cells #[.int .i64 0,.int .i64 0,.bool false,.slice none 0 0,.string ⟨#[]⟩] 41 (0,0)):=(by rw[hw4];exact setRow_heap _ _ _ _ _ _ (HB3.out _ HG2.out));have HW4:=hid hw4;have HB4:=hid hb4;clear hw4 hb4)
  refine bodyPost_ret (v:=.tuple #[.agg #[.int .i64 0,.int .i64 0,.bool false,.slice none 0 0,.string ⟨#[]⟩],.int .i64 2]) ?_ rfl ?_
  ·exact results_rowT Tryz.results70 _ _ (w.heap.size+1) _ _ (0,0) _ _ rfl HB4.out Tryz.underlying41 rfl HI5.out rfl
  exact saidO_err HR.out (dr_grown HW2.out HG2.out HW4.out) _ _ _ _ _
 obtain ⟨rfl,hsb⟩:=ha hp
 rw[if_neg (by omega)] at hR
 have hv0:=hcell 0 hp
 rw[Nat.add_zero] at hv0
 have hx256:=hlt _ (Od.getD_mem hp)
 have hv1:W2.cell? ⟨sb,so,none⟩=some (.int .u8 ((b.getD 0 0:Nat):Int)):=by rw[World.cell?_of_block (hga.block sb hsb (by simp))];exact hv0
 rw[hW2] at hv1
 obtain ⟨n,hn⟩:∃ n,n=b.length:=⟨_,rfl⟩
 rw[←hn] at hR hp hvc ⊢
 generalize b.getD 0 0=x at *
 clear hga b0 b1 hs2 hW2 hn ha hcell hlt hv0
 by_cases h1:1<n
 ·rw[if_pos (.inl h1)] at hR
  have HR:=hid hR
  have h1i:(1:Int)<(n:Int):=by omega
  clear hR
  go_enter Tryz.func70,Tryz.ntmps70
  go_wp2_with (rw[←HW2.out];refine wpList_store_row (by rfl) 41 (.tmp 4) (.tmp 62) (by rfl) (w.heap.size+1) #[.int .i64 0,.int .i64 0,.bool false,.slice none 0 0,.string ⟨#[]⟩] (by rfl) (by rfl) _ _ (HB3.out _ HG2.out) HI5.out rfl (dr_one5 _ _ _ _ _ _ _) ?_;obtain ⟨w4,hw4⟩:∃ w4,w4=W2.setRow (w.heap.size+1) #[.int .i64 0,.int .i64 0,.bool false,.slice none 0 0,.string ⟨#[]⟩]:=⟨_,rfl⟩;rw[←hw4];have hb4:w4.heap[w.heap.size+1]?=some (.cells #[.int .i64 0,.int .i64 0,.bool false,.slice none 0 0,.string ⟨#[]⟩] 41 (0,0)):=(by rw[hw4];exact setRow_heap _ _ _ _ _ _ (HB3.out _ HG2.out));have HW4:=hid hw4;have HB4:=hid hb4;clear hw4 hb4)
  refine bodyPost_ret (v:=.tuple #[.agg #[.int .i64 0,.int .i64 0,.bool false,.slice none 0 0,.string ⟨#[]⟩],.int .i64 4]) ?_ rfl ?_
  ·exact results_rowT Tryz.results70 _ _ (w.heap.size+1) _ _ (0,0) _ _ rfl HB4.out Tryz.underlying41 rfl HI5.out rfl
  exact saidO_err HR.out (dr_grown HW2.out HG2.out HW4.out) _ _ _ _ _
 have h1i:¬ (1:Int)<(n:Int):=by omega
 obtain rfl:n=1:=by omega
 by_cases h2:x=0
 ·subst h2
  rw[if_neg (by omega)] at hR
  have HR:=hid hR
  clear hR
  rw[show ((0:Nat):Int)=0 from rfl] at hv1
  go_enter Tryz.func70,Tryz.ntmps70
  go_wp2_with (rw[←HW2.out];refine wpList_store_row (by rfl) 41 (.tmp 4) (.tmp 67) (by rfl) (w.heap.size+1) #[.int .i64 0,.int .i64 0,.bool false,.slice none 0 0,.string ⟨#[]⟩] (by rfl) (by rfl) _ _ (HB3.out _ HG2.out) HI5.out rfl (dr_one5 _ _ _ _ _ _ _) ?_;obtain ⟨w4,hw4⟩:∃ w4,w4=W2.setRow (w.heap.size+1) #[.int .i64 0,.int .i64 0,.bool false,.slice none 0 0,.string ⟨#[]⟩]:=⟨_,rfl⟩;rw[←hw4];have hb4:w4.heap[w.heap.size+1]?=some (.cells #[.int .i64 0,.int .i64 0,.bool false,.slice none 0 0,.string ⟨#[]⟩] 41 (0,0)):=(by rw[hw4];exact setRow_heap _ _ _ _ _ _ (HB3.out _ HG2.out));have HW4:=hid hw4;have HB4:=hid hb4;clear hw4 hb4)
  refine bodyPost_ret (v:=.tuple #[.agg #[.int .i64 0,.int .i64 0,.bool false,.slice none 0 0,.string ⟨#[]⟩],.int .i64 0]) ?_ rfl ?_
  ·exact results_rowT Tryz.results70 _ _ (w.heap.size+1) _ _ (0,0) _ _ rfl HB4.out Tryz.underlying41 rfl HI5.out rfl
  rw[HR.out]
  exact ⟨dr_grown HW2.out HG2.out HW4.out,_,_,_,_,_,_,rfl,fun x h=>by cases h;exact ⟨rfl,rfl,rfl,rfl,.inl ⟨rfl,rfl⟩⟩⟩
 by_cases h3:x=255
 ·subst h3
  rw[if_neg (by omega)] at hR
  have HR:=hid hR
  clear hR
  rw[show ((255:Nat):Int)=255 from rfl] at hv1
  go_enter Tryz.func70,Tryz.ntmps70
  go_wp2_with (rw[←HW2.out];refine wpList_store_row (by rfl) 41 (.tmp 4) (.tmp 67) (by rfl) (w.heap.size+1) #[.int .i64 0,.int .i64 0,.bool true,.slice none 0 0,.string ⟨#[]⟩] (by rfl) (by rfl) _ _ (HB3.out _ HG2.out) HI5.out rfl (dr_one5 _ _ _ _ _ _ _) ?_;obtain ⟨w4,hw4⟩:∃ w4,w4=W2.setRow (w.heap.size+1) #[.int .i64 0,.int .i64 0,.bool true,.slice none 0 0,.string ⟨#[]⟩]:=⟨_,rfl⟩;rw[←hw4];have hb4:w4.heap[w.heap.size+1]?=some (.cells #[.int .i64 0,.int .i64 0,.bool true,.slice none 0 0,.string ⟨#[]⟩] 41 (0,0)):=(by rw[hw4];exact setRow_heap _ _ _ _ _ _ (HB3.out _ HG2.out));have HW4:=hid hw4;have HB4:=hid hb4;clear hw4 hb4)
  refine bodyPost_ret (v:=.tuple #[.agg #[.int .i64 0,.int .i64 0,.bool true,.slice none 0 0,.string ⟨#[]⟩],.int .i64 0]) ?_ rfl ?_
  ·exact results_rowT Tryz.results70 _ _ (w.heap.size+1) _ _ (0,0) _ _ rfl HB4.out Tryz.underlying41 rfl HI5.out rfl
  rw[HR.out]
  exact ⟨dr_grown HW2.out HG2.out HW4.out,_,_,_,_,_,_,rfl,fun x h=>by cases h;exact ⟨rfl,rfl,rfl,rfl,.inl ⟨rfl,rfl⟩⟩⟩
 rw[if_pos (.inr ⟨h2,h3⟩)] at hR
 have HR:=hid hR
 have e2:((x:Int) != 0)=true:=by simp;omega
 have e3:((x:Int) != 255)=true:=by simp;omega
 clear hR h2 h3
 go_enter Tryz.func70,Tryz.ntmps70
 go_wp2_with (rw[←HW2.out];refine wpList_store_row (by rfl) 41 (.tmp 4) (.tmp 62) (by rfl) (w.heap.size+1) #[.int .i64 0,.int .i64 0,.bool false,.slice none 0 0,.string ⟨#[]⟩] (by rfl) (by rfl) _ _ (HB3.out _ HG2.out) HI5.out rfl (dr_one5 _ _ _ _ _ _ _) ?_;obtain ⟨w4,hw4⟩:∃ w4,w4=W2.setRow (w.heap.size+1) #[.int .i64 0,.int .i64 0,.bool false,.slice none 0 0,.string ⟨#[]⟩]:=⟨_,rfl⟩;rw[←hw4];have hb4:w4.heap[w.heap.size+1]?=some (.cells #[.int .i64 0,.int .i64 0,.bool false,.slice none 0 0,.string ⟨#[]⟩] 41 (0,0)):=(by rw[hw4];exact setRow_heap _ _ _ _ _ _ (HB3.out _ HG2.out));have HW4:=hid hw4;have HB4:=hid hb4;clear hw4 hb4)
 refine bodyPost_ret (v:=.tuple #[.agg #[.int .i64 0,.int .i64 0,.bool false,.slice none 0 0,.string ⟨#[]⟩],.int .i64 4]) ?_ rfl ?_
 ·exact results_rowT Tryz.results70 _ _ (w.heap.size+1) _ _ (0,0) _ _ rfl HB4.out Tryz.underlying41 rfl HI5.out rfl
 exact saidO_err HR.out (dr_grown HW2.out HG2.out HW4.out) _ _ _ _ _
theorem dr_arcs {b:List Nat} {l:List Int} (h:Od.get b=.ok l):l.length≤1000∧∀ n∈l,0≤n∧n≤2147483647:=by
 have hr:Od.right l=true:=by
  unfold Od.get at h
  split at h
  ·cases h
  ·cases h
  ·simp only at h
   split at h
   ·cases h;assumption
   ·cases h
 obtain ⟨⟨_,h2,_⟩,h3⟩:=(Od.right_iff l).1 hr
 exact ⟨by omega,h3⟩
theorem refSaid_8 {w:World} (v:Value) (b:List Nat) (tag least most:Int) (hbl:b.length≤100000) (hB:Bytes w v b) :
  Calls Tryz.prog 70 #[.agg #[.int .i64 8,.int .i64 tag,.int .i64 least,.int .i64 most],v] w fun e w'=>SaidO v b (De.said 8 least most b) w w' e:=by
 obtain ⟨R,hR⟩:∃ R,R=De.said 8 least most b:=⟨_,rfl⟩
 rw[←hR]
 unfold De.said at hR
 rw[if_neg (by decide),if_neg (by decide),if_neg (by decide),if_neg (by decide),if_pos rfl] at hR
 obtain ⟨W2,hW2⟩:∃ W2,W2=(w.alloc (.cells #[.int .i64 8,.int .i64 tag,.int .i64 least,.int .i64 most] 31)).alloc (.cells #[.int .i64 0,.int .i64 0,.bool false,.slice none 0 0,.string ⟨#[]⟩] 41):=⟨_,rfl⟩
 have hga:w.grownBy W2 none:=by rw[hW2];exact grown_alloc (World.grownBy_alloc _ _ _) _
 have b0:W2.heap[w.heap.size]?=some (.cells #[.int .i64 8,.int .i64 tag,.int .i64 least,.int .i64 most] 31 (0,0)):=by rw[hW2];exact alloc2_old _ _ _
 have b1:W2.heap[w.heap.size+1]?=some (.cells #[.int .i64 0,.int .i64 0,.bool false,.slice none 0 0,.string ⟨#[]⟩] 41 (0,0)):=by rw[hW2];exact alloc2_new _ _ _
 have hs2:W2.heap.size=w.heap.size+2:=by rw[hW2,alloc2_size]
 have HB3:Hid (∀ w3,W2.grownBy w3 none→w3.heap[w.heap.size+1]?=some (.cells #[.int .i64 0,.int .i64 0,.bool false,.slice none 0 0,.string ⟨#[]⟩] 41 (0,0))):=hid (fun w3 hg=>(hg.block _ (by omega) (by simp)).trans b1)
 have HA3:Hid (∀ w3,W2.grownBy w3 none→w3.heap[w.heap.size]?=some (.cells #[.int .i64 8,.int .i64 tag,.int .i64 least,.int .i64 most] 31 (0,0))):=hid (fun w3 hg=>(hg.block _ (by omega) (by simp)).trans b0)
 have HW2:=hid hW2
 have HI5:Hid ((Tryz.prog.info? 41).map (·.size)=some 5):=hid (by kernel_rfl)
 have hn:=refGet_any v b W2 (hB.grown hga) hbl
 have HG2:=hid (grown_refl W2 none)
 cases hw:Od.get b with
 |error k =>
  rw[hw] at hR hn
  simp only at hR
  have hk0:=oget_err hw
  have hk:((k:Nat):Int)≠0:=by omega
  have HN:Hid (Calls Tryz.prog 126 #[v] W2 fun e w'=>(∃ u,e=.returned (.tuple #[u,.int .i64 (k:Nat)]))∧W2.grownBy w' none):=hid (hn.mono (fun e w' h=>by
   obtain ⟨hg,u,he,_⟩:=h
   exact ⟨⟨u,he⟩,hg⟩))
  have HR:=hid hR
  have c0:=cell_blk (HA3.out _ HG2.out) 0 rfl
  rw[hW2] at c0
  clear hn hw hR hB hga b0 b1 hs2 hW2 hk0
  go_enter Tryz.func70,Tryz.ntmps70
  go_wp2_with (first
   |(go_at_call 126;rw[←HW2.out];refine HN.out.mono ?_;rintro e w3 ⟨⟨u,rfl⟩,hg3⟩;have HG3:=hid hg3;have d0:=cell_blk (HA3.out _ hg3) 0 rfl;have d2:=cell_blk (HA3.out _ hg3) 2 rfl;have d3:=cell_blk (HA3.out _ hg3) 3 rfl;clear hg3)
   |(refine wpList_store_row (by rfl) 41 (.tmp 4) (.tmp 103) (by rfl) (w.heap.size+1) #[.int .i64 0,.int .i64 0,.bool false,.slice none 0 0,.string ⟨#[]⟩] (by rfl) (by rfl) _ _ (HB3.out _ HG3.out) HI5.out rfl (dr_one5 _ _ _ _ _ _ _) ?_;obtain ⟨w4,hw4⟩:∃ w4,w4=w3.setRow (w.heap.size+1) #[.int .i64 0,.int .i64 0,.bool false,.slice none 0 0,.string ⟨#[]⟩]:=⟨_,rfl⟩;rw[←hw4];have hb4:w4.heap[w.heap.size+1]?=some (.cells #[.int .i64 0,.int .i64 0,.bool false,.slice none 0 0,.string ⟨#[]⟩] 41 (0,0)):=(by rw[hw4];exact setRow_heap _ _ _ _ _ _ (HB3.out _ HG3.out));have HW4:=hid hw4;have HB4:=hid hb4;clear hw4 hb4))
  refine bodyPost_ret (v:=.tuple #[.agg #[.int .i64 0,.int .i64 0,.bool false,.slice none 0 0,.string ⟨#[]⟩],.int .i64 (k:Nat)]) ?_ rfl ?_
  ·exact results_rowT Tryz.results70 _ _ (w.heap.size+1) _ _ (0,0) _ _ rfl HB4.out Tryz.underlying41 rfl HI5.out rfl
  exact saidO_err HR.out (dr_grown HW2.out HG3.out HW4.out) _ _ _ _ _
 |ok l =>
  rw[hw] at hR hn
  simp only at hR
  obtain ⟨hl1,hl2⟩:=dr_arcs hw
  have HN:Hid (Calls Tryz.prog 126 #[v] W2 fun e w'=>(∃ u,e=.returned (.tuple #[u,.int .i64 0])∧Ints w' u l)∧W2.grownBy w' none):=hid (hn.mono (fun e w' h=>by
   obtain ⟨hg,u,he,hi⟩:=h
   exact ⟨⟨u,he,hi l rfl⟩,hg⟩))
  have HT:Hid (∀ (u:Value) (W:World),Ints W u l→Calls Tryz.prog 127 #[u] W fun e w'=>e=.returned (.string (strOf (Od.text l)))∧W.grownBy w' none):=hid (fun u W h=>refOText_any u l W h hl1 hl2)
  have htx:Od.text l=strL (strOf (Od.text l)):=(strL_strOf (text_lt l hl2)).symm
  have HR:Hid (R=.ok { De.none0 with t:=strL (strOf (Od.text l)) }):=hid (by rw[←htx];exact hR)
  obtain ⟨S,hS⟩:∃ S,S=strOf (Od.text l):=⟨_,rfl⟩
  rw[←hS] at HT HR
  have c0:=cell_blk (HA3.out _ HG2.out) 0 rfl
  rw[hW2] at c0
  clear hn hw hR hB hga b0 b1 hs2 hW2 hl1 hl2 htx hS
  go_enter Tryz.func70,Tryz.ntmps70
  go_wp2_with (first
   |(go_at_call 126;rw[←HW2.out];refine HN.out.mono ?_;rintro e w2 ⟨⟨u,rfl,hi⟩,hg3⟩;have HG1:=hid hg3;have z0:=cell_blk (HA3.out _ hg3) 0 rfl;have z2:=cell_blk (HA3.out _ hg3) 2 rfl;have z3:=cell_blk (HA3.out _ hg3) 3 rfl;have HI:=hid hi;clear hg3 hi)
   |(go_at_call 127;refine (HT.out _ _ HI.out).mono ?_;rintro e w3 ⟨rfl,hg3⟩;have HG3:=hid (grown_trans HG1.out hg3);clear hg3)
   |(refine wpList_store_row (by rfl) 41 (.tmp 4) (.tmp 107) (by rfl) (w.heap.size+1) #[.int .i64 0,.int .i64 0,.bool false,.slice none 0 0,.string S] (by rfl) (by rfl) _ _ (HB3.out _ HG3.out) HI5.out rfl (dr_one5 _ _ _ _ _ _ _) ?_;obtain ⟨w4,hw4⟩:∃ w4,w4=w3.setRow (w.heap.size+1) #[.int .i64 0,.int .i64 0,.bool false,.slice none 0 0,.string S]:=⟨_,rfl⟩;rw[←hw4];have hb4:w4.heap[w.heap.size+1]?=some (.cells #[.int .i64 0,.int .i64 0,.bool false,.slice none 0 0,.string S] 41 (0,0)):=(by rw[hw4];exact setRow_heap _ _ _ _ _ _ (HB3.out _ HG3.out));have HW4:=hid hw4;have HB4:=hid hb4;clear hw4 hb4))
  refine bodyPost_ret (v:=.tuple #[.agg #[.int .i64 0,.int .i64 0,.bool false,.slice none 0 0,.string S],.int .i64 0]) ?_ rfl ?_
  ·exact results_rowT Tryz.results70 _ _ (w.heap.size+1) _ _ (0,0) _ _ rfl HB4.out Tryz.underlying41 rfl HI5.out rfl
  rw[HR.out]
  exact ⟨dr_grown HW2.out HG3.out HW4.out,_,_,_,_,_,_,rfl,fun x h=>by cases h;exact ⟨rfl,rfl,rfl,rfl,.inl ⟨rfl,rfl⟩⟩⟩
theorem dr_calget_err {l:List Nat} {k:Nat} (h:Cal.get l=.error k):k≠0:=by
 unfold Cal.get at h
 (repeat' split at h) <;> first|(cases h;decide)|cases h
theorem refSaid_9 {w:World} (v:Value) (b:List Nat) (tag least most:Int) (hB:Bytes w v b) :
  Calls Tryz.prog 70 #[.agg #[.int .i64 9,.int .i64 tag,.int .i64 least,.int .i64 most],v] w fun e w'=>SaidO v b (De.said 9 least most b) w w' e:=by
 obtain ⟨R,hR⟩:∃ R,R=De.said 9 least most b:=⟨_,rfl⟩
 rw[←hR]
 unfold De.said at hR
 rw[if_neg (by decide),if_neg (by decide),if_neg (by decide),if_neg (by decide),if_neg (by decide),if_pos rfl] at hR
 obtain ⟨W2,hW2⟩:∃ W2,W2=(w.alloc (.cells #[.int .i64 9,.int .i64 tag,.int .i64 least,.int .i64 most] 31)).alloc (.cells #[.int .i64 0,.int .i64 0,.bool false,.slice none 0 0,.string ⟨#[]⟩] 41):=⟨_,rfl⟩
 have hga:w.grownBy W2 none:=by rw[hW2];exact grown_alloc (World.grownBy_alloc _ _ _) _
 have b0:W2.heap[w.heap.size]?=some (.cells #[.int .i64 9,.int .i64 tag,.int .i64 least,.int .i64 most] 31 (0,0)):=by rw[hW2];exact alloc2_old _ _ _
 have b1:W2.heap[w.heap.size+1]?=some (.cells #[.int .i64 0,.int .i64 0,.bool false,.slice none 0 0,.string ⟨#[]⟩] 41 (0,0)):=by rw[hW2];exact alloc2_new _ _ _
 have hs2:W2.heap.size=w.heap.size+2:=by rw[hW2,alloc2_size]
 have HB3:Hid (∀ w3,W2.grownBy w3 none→w3.heap[w.heap.size+1]?=some (.cells #[.int .i64 0,.int .i64 0,.bool false,.slice none 0 0,.string ⟨#[]⟩] 41 (0,0))):=hid (fun w3 hg=>(hg.block _ (by omega) (by simp)).trans b1)
 have HA3:Hid (∀ w3,W2.grownBy w3 none→w3.heap[w.heap.size]?=some (.cells #[.int .i64 9,.int .i64 tag,.int .i64 least,.int .i64 most] 31 (0,0))):=hid (fun w3 hg=>(hg.block _ (by omega) (by simp)).trans b0)
 have HW2:=hid hW2
 have HI5:Hid ((Tryz.prog.info? 41).map (·.size)=some 5):=hid (by kernel_rfl)
 have hn:=refMGet_any v b W2 (hB.grown hga)
 have HG2:=hid (grown_refl W2 none)
 cases hw:Cal.get b with
 |error k =>
  rw[hw] at hR hn
  simp only at hR
  have HN:Hid (Calls Tryz.prog 128 #[v] W2 fun e w'=>e=.returned (.tuple #[.int .i64 0,.int .i64 (k:Nat)])∧W2.grownBy w' none):=hid (hn.mono (fun e w' h=>⟨by rw[h.1];rfl,h.2⟩))
  have HR:=hid hR
  have c0:=cell_blk (HA3.out _ HG2.out) 0 rfl
  rw[hW2] at c0
  clear hn hw hR hB hga b0 b1 hs2 hW2
  go_enter Tryz.func70,Tryz.ntmps70
  go_wp2_with (first
   |(go_at_call 128;rw[←HW2.out];refine HN.out.mono ?_;rintro e w3 ⟨rfl,hg3⟩;have HG3:=hid hg3;have d0:=cell_blk (HA3.out _ hg3) 0 rfl;have d2:=cell_blk (HA3.out _ hg3) 2 rfl;have d3:=cell_blk (HA3.out _ hg3) 3 rfl;clear hg3)
   |(refine wpList_store_row (by rfl) 41 (.tmp 4) (.tmp 116) (by rfl) (w.heap.size+1) #[.int .i64 0,.int .i64 0,.bool false,.slice none 0 0,.string ⟨#[]⟩] (by rfl) (by rfl) _ _ (HB3.out _ HG3.out) HI5.out rfl (dr_one5 _ _ _ _ _ _ _) ?_;obtain ⟨w4,hw4⟩:∃ w4,w4=w3.setRow (w.heap.size+1) #[.int .i64 0,.int .i64 0,.bool false,.slice none 0 0,.string ⟨#[]⟩]:=⟨_,rfl⟩;rw[←hw4];have hb4:w4.heap[w.heap.size+1]?=some (.cells #[.int .i64 0,.int .i64 0,.bool false,.slice none 0 0,.string ⟨#[]⟩] 41 (0,0)):=(by rw[hw4];exact setRow_heap _ _ _ _ _ _ (HB3.out _ HG3.out));have HW4:=hid hw4;have HB4:=hid hb4;clear hw4 hb4))
  refine bodyPost_ret (v:=.tuple #[.agg #[.int .i64 0,.int .i64 0,.bool false,.slice none 0 0,.string ⟨#[]⟩],.int .i64 (k:Nat)]) ?_ rfl ?_
  ·exact results_rowT Tryz.results70 _ _ (w.heap.size+1) _ _ (0,0) _ _ rfl HB4.out Tryz.underlying41 rfl HI5.out rfl
  exact saidO_err HR.out (dr_grown HW2.out HG3.out HW4.out) _ _ _ _ _
 |ok n =>
  rw[hw] at hR hn
  simp only at hR
  have HN:Hid (Calls Tryz.prog 128 #[v] W2 fun e w'=>e=.returned (.tuple #[.int .i64 (n:Int),.int .i64 0])∧W2.grownBy w' none):=hid (hn.mono (fun e w' h=>⟨by rw[h.1];rfl,h.2⟩))
  have HR:=hid hR
  have c0:=cell_blk (HA3.out _ HG2.out) 0 rfl
  rw[hW2] at c0
  clear hn hw hR hB hga b0 b1 hs2 hW2
  go_enter Tryz.func70,Tryz.ntmps70
  go_wp2_with (first
   |(go_at_call 128;rw[←HW2.out];refine HN.out.mono ?_;rintro e w3 ⟨rfl,hg3⟩;have HG3:=hid hg3;have d0:=cell_blk (HA3.out _ hg3) 0 rfl;have d2:=cell_blk (HA3.out _ hg3) 2 rfl;have d3:=cell_blk (HA3.out _ hg3) 3 rfl;clear hg3)
   |(refine wpList_store_row (by rfl) 41 (.tmp 4) (.tmp 116) (by rfl) (w.heap.size+1) #[.int .i64 0,.int .i64 (n:Int),.bool false,.slice none 0 0,.string ⟨#[]⟩] (by rfl) (by rfl) _ _ (HB3.out _ HG3.out) HI5.out rfl (dr_one5 _ _ _ _ _ _ _) ?_;obtain ⟨w4,hw4⟩:∃ w4,w4=w3.setRow (w.heap.size+1) #[.int .i64 0,.int .i64 (n:Int),.bool false,.slice none 0 0,.string ⟨#[]⟩]:=⟨_,rfl⟩;rw[←hw4];have hb4:w4.heap[w.heap.size+1]?=some (.cells #[.int .i64 0,.int .i64 (n:Int),.bool false,.slice none 0 0,.string ⟨#[]⟩] 41 (0,0)):=(by rw[hw4];exact setRow_heap _ _ _ _ _ _ (HB3.out _ HG3.out));have HW4:=hid hw4;have HB4:=hid hb4;clear hw4 hb4))
  refine bodyPost_ret (v:=.tuple #[.agg #[.int .i64 0,.int .i64 (n:Int),.bool false,.slice none 0 0,.string ⟨#[]⟩],.int .i64 0]) ?_ rfl ?_
  ·exact results_rowT Tryz.results70 _ _ (w.heap.size+1) _ _ (0,0) _ _ rfl HB4.out Tryz.underlying41 rfl HI5.out rfl
  rw[HR.out]
  exact ⟨dr_grown HW2.out HG3.out HW4.out,_,_,_,_,_,_,rfl,fun x h=>by cases h;exact ⟨rfl,rfl,rfl,rfl,.inl ⟨rfl,rfl⟩⟩⟩
theorem refSaid_10 {w:World} (v:Value) (b:List Nat) (kk tag least most:Int) (hbl:b.length≤1000) (h3:kk≠3) (h4:kk≠4) (h5:kk≠5) (h6:kk≠6) (h7:kk≠7) (h8:kk≠8) (h9:kk≠9) (hB:Bytes w v b) :
  Calls Tryz.prog 70 #[.agg #[.int .i64 kk,.int .i64 tag,.int .i64 least,.int .i64 most],v] w fun e w'=>SaidO v b (De.said kk least most b) w w' e:=by
 obtain ⟨R,hR⟩:∃ R,R=De.said kk least most b:=⟨_,rfl⟩
 rw[←hR]
 unfold De.said at hR
 rw[if_neg (by omega),if_neg h5,if_neg h6,if_neg h7,if_neg h8,if_neg h9] at hR
 obtain ⟨W2,hW2⟩:∃ W2,W2=(w.alloc (.cells #[.int .i64 kk,.int .i64 tag,.int .i64 least,.int .i64 most] 31)).alloc (.cells #[.int .i64 0,.int .i64 0,.bool false,.slice none 0 0,.string ⟨#[]⟩] 41):=⟨_,rfl⟩
 have hga:w.grownBy W2 none:=by rw[hW2];exact grown_alloc (World.grownBy_alloc _ _ _) _
 have b0:W2.heap[w.heap.size]?=some (.cells #[.int .i64 kk,.int .i64 tag,.int .i64 least,.int .i64 most] 31 (0,0)):=by rw[hW2];exact alloc2_old _ _ _
 have b1:W2.heap[w.heap.size+1]?=some (.cells #[.int .i64 0,.int .i64 0,.bool false,.slice none 0 0,.string ⟨#[]⟩] 41 (0,0)):=by rw[hW2];exact alloc2_new _ _ _
 have hs2:W2.heap.size=w.heap.size+2:=by rw[hW2,alloc2_size]
 have HB3:Hid (∀ w3,W2.grownBy w3 none→w3.heap[w.heap.size+1]?=some (.cells #[.int .i64 0,.int .i64 0,.bool false,.slice none 0 0,.string ⟨#[]⟩] 41 (0,0))):=hid (fun w3 hg=>(hg.block _ (by omega) (by simp)).trans b1)
 have HA3:Hid (∀ w3,W2.grownBy w3 none→w3.heap[w.heap.size]?=some (.cells #[.int .i64 kk,.int .i64 tag,.int .i64 least,.int .i64 most] 31 (0,0))):=hid (fun w3 hg=>(hg.block _ (by omega) (by simp)).trans b0)
 have HW2:=hid hW2
 have HI5:Hid ((Tryz.prog.info? 41).map (·.size)=some 5):=hid (by kernel_rfl)
 have e3:((kk:Int)==3)=false:=by simpa using h3
 have e4:((kk:Int)==4)=false:=by simpa using h4
 have e5:((kk:Int)==5)=false:=by simpa using h5
 have e6:((kk:Int)==6)=false:=by simpa using h6
 have e7:((kk:Int)==7)=false:=by simpa using h7
 have e8:((kk:Int)==8)=false:=by simpa using h8
 have e9:((kk:Int)==9)=false:=by simpa using h9
 clear h3 h4 h5 h6 h7 h8 h9
 have hn:=refMask_any v b W2 (hB.grown hga) hbl
 have HG2:=hid (grown_refl W2 none)
 cases hw:Pt.mask b with
 |error k =>
  rw[hw] at hR hn
  simp only at hR
  have HN:Hid (Calls Tryz.prog 129 #[v] W2 fun e w'=>e=.returned (.tuple #[.int .i64 0,.int .i64 (k:Nat)])∧W2.grownBy w' none):=hid (hn.mono (fun e w' h=>⟨by rw[h.1];rfl,by rw[h.2];exact grown_refl _ _⟩))
  have HR:=hid hR
  have c0:=cell_blk (HA3.out _ HG2.out) 0 rfl
  rw[hW2] at c0
  clear hn hw hR hB hga b0 b1 hs2 hW2
  go_enter Tryz.func70,Tryz.ntmps70
  go_wp2_with (first
   |(go_at_call 129;rw[←HW2.out];refine HN.out.mono ?_;rintro e w3 ⟨rfl,hg3⟩;have HG3:=hid hg3;have d0:=cell_blk (HA3.out _ hg3) 0 rfl;have d2:=cell_blk (HA3.out _ hg3) 2 rfl;have d3:=cell_blk (HA3.out _ hg3) 3 rfl;clear hg3)
   |(refine wpList_store_row (by rfl) 41 (.tmp 4) (.tmp 124) (by rfl) (w.heap.size+1) #[.int .i64 0,.int .i64 0,.bool false,.slice none 0 0,.string ⟨#[]⟩] (by rfl) (by rfl) _ _ (HB3.out _ HG3.out) HI5.out rfl (dr_one5 _ _ _ _ _ _ _) ?_;obtain ⟨w4,hw4⟩:∃ w4,w4=w3.setRow (w.heap.size+1) #[.int .i64 0,.int .i64 0,.bool false,.slice none 0 0,.string ⟨#[]⟩]:=⟨_,rfl⟩;rw[←hw4];have hb4:w4.heap[w.heap.size+1]?=some (.cells #[.int .i64 0,.int .i64 0,.bool false,.slice none 0 0,.string ⟨#[]⟩] 41 (0,0)):=(by rw[hw4];exact setRow_heap _ _ _ _ _ _ (HB3.out _ HG3.out));have HW4:=hid hw4;have HB4:=hid hb4;clear hw4 hb4))
  refine bodyPost_ret (v:=.tuple #[.agg #[.int .i64 0,.int .i64 0,.bool false,.slice none 0 0,.string ⟨#[]⟩],.int .i64 (k:Nat)]) ?_ rfl ?_
  ·exact results_rowT Tryz.results70 _ _ (w.heap.size+1) _ _ (0,0) _ _ rfl HB4.out Tryz.underlying41 rfl HI5.out rfl
  exact saidO_err HR.out (dr_grown HW2.out HG3.out HW4.out) _ _ _ _ _
 |ok n =>
  rw[hw] at hR hn
  simp only at hR
  have HN:Hid (Calls Tryz.prog 129 #[v] W2 fun e w'=>e=.returned (.tuple #[.int .i64 (n:Int),.int .i64 0])∧W2.grownBy w' none):=hid (hn.mono (fun e w' h=>⟨by rw[h.1];rfl,by rw[h.2];exact grown_refl _ _⟩))
  have HR:=hid hR
  have c0:=cell_blk (HA3.out _ HG2.out) 0 rfl
  rw[hW2] at c0
  clear hn hw hR hB hga b0 b1 hs2 hW2
  go_enter Tryz.func70,Tryz.ntmps70
  go_wp2_with (first
   |(go_at_call 129;rw[←HW2.out];refine HN.out.mono ?_;rintro e w3 ⟨rfl,hg3⟩;have HG3:=hid hg3;have d0:=cell_blk (HA3.out _ hg3) 0 rfl;have d2:=cell_blk (HA3.out _ hg3) 2 rfl;have d3:=cell_blk (HA3.out _ hg3) 3 rfl;clear hg3)
   |(refine wpList_store_row (by rfl) 41 (.tmp 4) (.tmp 124) (by rfl) (w.heap.size+1) #[.int .i64 0,.int .i64 (n:Int),.bool false,.slice none 0 0,.string ⟨#[]⟩] (by rfl) (by rfl) _ _ (HB3.out _ HG3.out) HI5.out rfl (dr_one5 _ _ _ _ _ _ _) ?_;obtain ⟨w4,hw4⟩:∃ w4,w4=w3.setRow (w.heap.size+1) #[.int .i64 0,.int .i64 (n:Int),.bool false,.slice none 0 0,.string ⟨#[]⟩]:=⟨_,rfl⟩;rw[←hw4];have hb4:w4.heap[w.heap.size+1]?=some (.cells #[.int .i64 0,.int .i64 (n:Int),.bool false,.slice none 0 0,.string ⟨#[]⟩] 41 (0,0)):=(by rw[hw4];exact setRow_heap _ _ _ _ _ _ (HB3.out _ HG3.out));have HW4:=hid hw4;have HB4:=hid hb4;clear hw4 hb4))
  refine bodyPost_ret (v:=.tuple #[.agg #[.int .i64 0,.int .i64 (n:Int),.bool false,.slice none 0 0,.string ⟨#[]⟩],.int .i64 0]) ?_ rfl ?_
  ·exact results_rowT Tryz.results70 _ _ (w.heap.size+1) _ _ (0,0) _ _ rfl HB4.out Tryz.underlying41 rfl HI5.out rfl
  rw[HR.out]
  exact ⟨dr_grown HW2.out HG3.out HW4.out,_,_,_,_,_,_,rfl,fun x h=>by cases h;exact ⟨rfl,rfl,rfl,rfl,.inl ⟨rfl,rfl⟩⟩⟩
theorem refSaid_7 {w:World} (v:Value) (b:List Nat) (tag least most:Int) (hbl:b.length≤1000000) (hB:Bytes w v b) :
  Calls Tryz.prog 70 #[.agg #[.int .i64 7,.int .i64 tag,.int .i64 least,.int .i64 most],v] w fun e w'=>SaidO v b (De.said 7 least most b) w w' e:=by
 obtain ⟨R,hR⟩:∃ R,R=De.said 7 least most b:=⟨_,rfl⟩
 rw[←hR]
 unfold De.said at hR
 rw[if_neg (by decide),if_neg (by decide),if_neg (by decide),if_pos rfl] at hR
 obtain ⟨W2,hW2⟩:∃ W2,W2=(w.alloc (.cells #[.int .i64 7,.int .i64 tag,.int .i64 least,.int .i64 most] 31)).alloc (.cells #[.int .i64 0,.int .i64 0,.bool false,.slice none 0 0,.string ⟨#[]⟩] 41):=⟨_,rfl⟩
 have hga:w.grownBy W2 none:=by rw[hW2];exact grown_alloc (World.grownBy_alloc _ _ _) _
 have b0:W2.heap[w.heap.size]?=some (.cells #[.int .i64 7,.int .i64 tag,.int .i64 least,.int .i64 most] 31 (0,0)):=by rw[hW2];exact alloc2_old _ _ _
 have b1:W2.heap[w.heap.size+1]?=some (.cells #[.int .i64 0,.int .i64 0,.bool false,.slice none 0 0,.string ⟨#[]⟩] 41 (0,0)):=by rw[hW2];exact alloc2_new _ _ _
 have hs2:W2.heap.size=w.heap.size+2:=by rw[hW2,alloc2_size]
 have HB3:Hid (∀ w3,W2.grownBy w3 none→w3.heap[w.heap.size+1]?=some (.cells #[.int .i64 0,.int .i64 0,.bool false,.slice none 0 0,.string ⟨#[]⟩] 41 (0,0))):=hid (fun w3 hg=>(hg.block _ (by omega) (by simp)).trans b1)
 have HA3:Hid (∀ w3,W2.grownBy w3 none→w3.heap[w.heap.size]?=some (.cells #[.int .i64 7,.int .i64 tag,.int .i64 least,.int .i64 most] 31 (0,0))):=hid (fun w3 hg=>(hg.block _ (by omega) (by simp)).trans b0)
 have HW2:=hid hW2
 have HI5:Hid ((Tryz.prog.info? 41).map (·.size)=some 5):=hid (by kernel_rfl)
 have HG2:=hid (grown_refl W2 none)
 have hb8:=hB.1
 have hSb:strL (strOf b)=b:=strL_strOf hb8
 have HCv:Hid (∀ W,w.grownBy W none→(convert 22 9 v).run Tryz.prog W=.ok (.string (strOf b)) W):=hid (fun W hW=>conv_bytes (hB.grown hW) _ _ _ Tryz.underlying22 Tryz.underlying5 Tryz.underlying9)
 have HAs:Hid (∀ W,Calls Tryz.prog 125 #[.string (strOf b),.int .i64 most] W fun e w'=>e=.returned (.int .i64 ((Pt.asked b most:Nat):Int))∧w'=W):=hid (fun W=>by
  have:=refAsked_any (strOf b) most (by rw[strOf_size];exact hbl) W
  rwa [hSb] at this)
 have HR:Hid (R=if Pt.asked b most=0 then .ok { De.none0 with t:=strL (strOf b) } else .error (Pt.asked b most)):=hid (by rw[hSb];exact hR)
 obtain ⟨K,hK⟩:∃ K,K=Pt.asked b most:=⟨_,rfl⟩
 obtain ⟨S,hS⟩:∃ S,S=strOf b:=⟨_,rfl⟩
 rw[←hK,←hS] at HR
 rw[←hK,←hS] at HAs
 rw[←hS] at HCv
 have HL3:Hid (∀ W,W2.grownBy W none→(Instr.loadAt 3 (.pointer (some ⟨w.heap.size,3,none⟩))).run Tryz.prog W=.ok (.int .i64 most) W):=hid (fun W hW=>loadI (cell_blk (HA3.out _ hW) 3 rfl))
 have HGa:=hid hga
 have c0:=cell_blk (HA3.out _ HG2.out) 0 rfl
 rw[hW2] at c0
 clear hga b0 b1 hs2 hW2 hR hB hb8 hSb hK hS
 go_enter Tryz.func70,Tryz.ntmps70
 go_wp2
 rw[←HW2.out]
 refine sd_region _ v w.heap.size S most K W2 _ _ rfl rfl rfl rfl (fun W hW=>HCv.out _ (grown_trans HGa.out hW)) (fun W=>by simp[go_sem]) (fun W hW=>HL3.out _ hW) HAs.out (fun W hW=>HB3.out _ hW) HI5.out ⟨rfl,rfl,rfl,Nat.le_refl _,fun _ _ _=>rfl⟩ (fun us w3 hg3=>?_)
 simp only[fill_cons,fill_nil,Act.put,List.setIfInBounds_toArray,List.set_cons_succ,List.set_cons_zero]
 obtain ⟨w4,hw4⟩:∃ w4,w4=w3.setRow (w.heap.size+1) #[.int .i64 0,.int .i64 0,.bool false,.slice none 0 0,.string S]:=⟨_,rfl⟩
 rw[←hw4]
 have HB4:Hid (w4.heap[w.heap.size+1]?=some (.cells #[.int .i64 0,.int .i64 0,.bool false,.slice none 0 0,.string S] 41 (0,0))):=hid (by rw[hw4];exact setRow_heap _ _ _ _ _ _ (HB3.out _ hg3))
 have HG4:=hid (dr_grown HW2.out hg3 hw4)
 clear hg3 hw4
 go_wp2
 refine bodyPost_ret (v:=.tuple #[.agg #[.int .i64 0,.int .i64 0,.bool false,.slice none 0 0,.string S],.int .i64 (K:Nat)]) ?_ rfl ?_
 ·exact results_rowT Tryz.results70 _ _ (w.heap.size+1) _ _ (0,0) _ _ rfl HB4.out Tryz.underlying41 rfl HI5.out rfl
 by_cases hk:K=0
 ·have hr:=HR.out
  rw[if_pos hk] at hr
  subst hk
  rw[hr]
  exact ⟨HG4.out,_,_,_,_,_,_,rfl,fun x h=>by cases h;exact ⟨rfl,rfl,rfl,rfl,.inl ⟨rfl,rfl⟩⟩⟩
 ·exact saidO_err (by rw[HR.out,if_neg hk]) HG4.out _ _ _ _ _
theorem refSaid_any {w:World} (v:Value) (b:List Nat) (k tag least most:Int) (hB:Bytes w v b) (hbl:b.length≤1000) :
  Calls Tryz.prog 70 #[.agg #[.int .i64 k,.int .i64 tag,.int .i64 least,.int .i64 most],v] w fun e w'=>SaidO v b (De.said k least most b) w w' e:=by
 by_cases h3:k=3
 ·subst h3;exact refSaid_3 v b tag least most hB
 by_cases h4:k=4
 ·subst h4;exact refSaid_4 v b tag least most hB
 by_cases h5:k=5
 ·subst h5;exact refSaid_5 v b tag least most hB
 by_cases h6:k=6
 ·subst h6;exact refSaid_6 v b tag least most hB
 by_cases h7:k=7
 ·subst h7;exact refSaid_7 v b tag least most (by omega) hB
 by_cases h8:k=8
 ·subst h8;exact refSaid_8 v b tag least most (by omega) hB
 by_cases h9:k=9
 ·subst h9;exact refSaid_9 v b tag least most hB
 exact refSaid_10 v b k tag least most hbl h3 h4 h5 h6 h7 h8 h9 hB
end Go.Proofs.YtndkifkhdollgaaGreatDoor
