import Derived.Test.YtjjbkpjjmbfdhaaGreatDoorZb00
import Derived.Test.YtjjbkpjjmbfdhaaGreatDoorZb02
import Derived.Test.YtjjbkpjjmbfdhaaGreatDoorZb03
import Derived.Test.YtjjbkpjjmbfdhaaGreatDoorZb09
import Derived.Test.YtjjbkpjjmbfdhaaGreatDoorZb11
import Derived.Test.YtjjbkpjjmbfdhaaGreatDoorZb12
import Derived.Test.YtjjbkpjjmbfdhaaGreatDoorZb13
import Derived.Test.YtjjbkpjjmbfdhaaGreatDoorZb14
import Derived.Test.YtjjbkpjjmbfdhaaGreatDoorZb17
import Derived.Test.YtjjbkpjjmbfdhaaGreatDoorZb22
import Derived.Test.YtjjbkpjjmbfdhaaGreatDoorZb23
import Derived.Test.YtjjbkpjjmbfdhaaGreatDoorZb24
import Derived.Test.YtjjbkpjjmbfdhaaGreatDoorZb28
import Derived.Test.YtjjbkpjjmbfdhaaGreatDoorZb30
import Derived.Lib.LaidTab
import Derived.BigQuiet
import Derived.Laws.Cover1
import Derived.Deep.QuietTactic
import Derived.Test.YtjjbkpjjmbfdhaaGreatDoorChecked
import Derived.WalkKit
import Derived.Lib.Hide
set_option linter.unusedVariables false
set_option linter.unusedSimpArgs false
namespace Go.Proofs.YtjjbkpjjmbfdhaaGreatDoor
open Go.ChangeShapes Go.WideShapes Go.ChangeAt Go.RowKit
theorem laid_mem6 {P:Program} {W:World} {n:String} {d:DataW Unit}:∀ {L:List (String×DataW Unit)} {ps:List MemPlace},DataW.LaidVars P W L ps→(n,d)∈L →
  ∃ g t cs fuel p,P.globalNamed n=some g∧(P.globals[g]?).map (·.type)=some t∧W.var? P n=some cs∧DataW.trod (fun _=>()) P W 0 (fun _=>true) false fuel t cs.toList=some (d,p)
 |[],_,_,hm=>by cases hm
 |(n',d') :: r,ps,h,hm=>by
  obtain ⟨g,t,cs,fuel,p,q,h1,h2,h3,h4,h5,_⟩:=h
  rcases List.mem_cons.1 hm with e|hm
  ·cases e
   exact ⟨g,t,cs,fuel,p,h1,h2,h3,h4⟩
  ·exact laid_mem6 h5 hm
theorem gLen:Tryz.prog.globalNamed "bulla/moments.lengths"=some 31:=by kernel_rfl
theorem tLen:(Tryz.prog.globals[31]?).map (·.type)=some 233:=by kernel_rfl
theorem c12:Tryz.prog.cellsOf 233=12:=by kernel_rfl
theorem mcInt:Tryz.prog.cellsOf 3=1:=by kernel_rfl
theorem dLen:(Rows.laid_bulla_moments_lengths:DataW Unit)=Lib.tabData .i64 monthsL:=by kernel_rfl
end Go.Proofs.YtjjbkpjjmbfdhaaGreatDoor
namespace Go.Proofs.YtjjbkpjjmbfdhaaGreatDoor
namespace De
theorem onums_err28:∀ (f most:Nat) (l:List Nat) {k:Nat},Od.nums f most l=.error k→k≤28
 |f,_,[],_,h=>by cases f <;> simp[Od.nums] at h
 |0,_,_ :: _,k,h=>by
  have h2:0=k:=Except.error.inj h
  omega
 |f+1,most,c :: l,k,h=>by
  rw[Od.nums] at h
  cases hp:Od.piece (c :: l) with
  |none=>rw[hp] at h;have:=Except.error.inj h;omega
  |some p =>
   obtain ⟨p,t⟩:=p
   rw[hp] at h
   have h:(if p.head?=some 128 then (Except.error 4:Except Nat (List Nat)) else if most<Od.sval p then .error 1 else match Od.nums f 2147483647 t with
    |.error k=>.error k
    |.ok r=>.ok (Od.sval p :: r))=.error k:=h
   split at h
   ·have:=Except.error.inj h;omega
   ·split at h
    ·have:=Except.error.inj h;omega
    ·cases hn:Od.nums f 2147483647 t with
     |error e=>rw[hn] at h;obtain rfl:=Except.error.inj h;exact onums_err28 f _ t hn
     |ok r=>rw[hn] at h;exact absurd h (by simp)
theorem oget_err28 {l:List Nat} {k:Nat} (h:Od.get l=.error k):k≤28:=by
 unfold Od.get at h
 cases hn:Od.nums l.length 2147483727 l with
 |error e=>rw[hn] at h;obtain rfl:=Except.error.inj h;exact onums_err28 _ _ l hn
 |ok r =>
  rw[hn] at h
  cases r with
  |nil=>have:=Except.error.inj h;omega
  |cons n r =>
   revert h
   simp only
   split
   ·intro h;exact absurd h (by simp)
   ·intro h;have:=Except.error.inj h;omega
theorem said_err28 {k least most:Int} {l:List Nat} {e:Nat} (h:De.said k least most l=.error e):e≤28:=by
 unfold De.said at h
 split at h
 ·cases hw:Wh.get l with
  |error j =>
   rw[hw] at h
   cases h
   revert hw
   unfold Wh.get
   repeat' split
   all_goals (intro hw;first|(have:=Except.error.inj hw;omega)|exact absurd hw (by simp))
  |ok n =>
   rw[hw] at h
   simp only at h
   split at h
   ·cases h;decide
   ·cases h
 split at h
 ·(repeat' split at h) <;> first|(cases h;decide)|cases h
 split at h
 ·(repeat' split at h) <;> first|(cases h;decide)|cases h
 split at h
 ·split at h
  ·cases h
  ·cases h;exact asked_le _ _
 split at h
 ·cases ho:Od.get l with
  |error j=>rw[ho] at h;cases h;exact oget_err28 ho
  |ok n=>rw[ho] at h;cases h
 split at h
 ·cases ho:Cal.get l with
  |error j =>
   rw[ho] at h;cases h
   revert ho
   unfold Cal.get
   repeat' split
   all_goals (intro hw;first|(have:=Except.error.inj hw;omega)|exact absurd hw (by simp))
  |ok n=>rw[ho] at h;cases h
 ·cases ho:Pt.mask l with
  |error j =>
   rw[ho] at h;cases h
   revert ho
   unfold Pt.mask
   repeat' split
   all_goals (intro hw;first|(have:=Except.error.inj hw;omega)|exact absurd hw (by simp))
  |ok n=>rw[ho] at h;cases h
theorem next_e28 {s:Rd} {tag:Int} (h:s.e≤28):(next s tag).1.e≤28:=by
 unfold next
 split
 ·exact h
 ·cases hf:Tl.first s.top with
  |error e=>exact first_err28 hf
  |ok p =>
   obtain ⟨t,i,n⟩:=p
   simp only
   split
   ·show 5≤28;decide
   ·exact h
theorem enter_e28 {s:Rd} {tag:Int} (h:s.e≤28):(enter s tag).1.e≤28:=by
 unfold enter
 split
 ·exact h
 ·split
  ·show 5≤28;decide
  ·have:=next_e28 (tag:=tag) h
   split
   ·rename_i hn;rw[hn] at this;exact this
   ·rename_i hn;rw[hn] at this;exact this
theorem leave_e28 {s:Rd} (h:s.e≤28):(leave s).e≤28:=by
 unfold leave
 split
 ·exact h
 ·split
  ·show 24≤28;decide
  ·split
   ·show 4≤28;decide
   ·exact h
theorem ask_e28 {s:Rd} {k tag least most:Int} (h:s.e≤28):(ask s k tag least most).1.e≤28:=by
 unfold ask
 split
 ·exact h
 split
 ·exact enter_e28 h
 split
 ·exact leave_e28 h
 split
 ·have:=next_e28 (tag:=0) h
  split
  ·rename_i hn;rw[hn] at this;exact this
  ·rename_i hn;rw[hn] at this;exact this
 ·have:=next_e28 (tag:=tagOf k) h
  split
  ·rename_i hn;rw[hn] at this;exact this
  ·rename_i hn
   rw[hn] at this
   split
   ·rename_i he;exact said_err28 he
   ·exact this
theorem start_e28 {b:List Nat}:(start b).e≤28:=by
 unfold start
 show (match Tl.levels b with
 |.error e=>e
 |.ok _=>0)≤28
 cases h:Tl.levels b with
 |error e=>exact levels_err28 h
 |ok n=>exact Nat.zero_le _
end De
def szR (s:De.Rd):Nat:=if s.e=0 then s.top.length else 0
structure LeftI (j:Nat) (s:De.Rd):Prop where
 sz:j+szR s≤1000
 top:s.top.length≤1000
 lev:s.left.length≤17
 e28:s.e≤28
theorem first_len {l:List Nat} {t i n:Nat} (h:Tl.first l=.ok (t,i,n)):2≤l.length:=by
 match l,h with
 |[],h=>exact absurd h (by simp[Tl.first])
 |[x],h =>
  rw[Tl.first] at h
  split at h
  ·cases h
  ·exact absurd h (by simp[Tl.rdLen])
 |x :: y :: r,_=>simp
theorem next_less {s:De.Rd} {tag:Int}:(De.next s tag).1.left=s.left∧(De.next s tag).1.top.length≤s.top.length∧∀ x y,(De.next s tag).2=some (x,y)→(De.next s tag).1.e=s.e∧(De.next s tag).1.top.length+2≤s.top.length∧x.length≤s.top.length:=by
 unfold De.next
 by_cases he:s.e≠0
 ·rw[if_pos he];exact ⟨rfl,Nat.le_refl _,fun x y e=>by cases e⟩
 ·rw[if_neg he]
  cases hf:Tl.first s.top with
  |error k=>exact ⟨rfl,Nat.le_refl _,fun x y e=>by cases e⟩
  |ok p =>
   obtain ⟨t,i,n⟩:=p
   simp only
   by_cases ht:tag≠0∧(t:Int)≠tag
   ·rw[if_pos ht];exact ⟨rfl,Nat.le_refl _,fun x y e=>by cases e⟩
   ·rw[if_neg ht]
    have h2:=Tl.first_two hf
    have hne:s.top≠[]:=by
     intro h0;rw[h0] at hf;exact absurd hf (by simp[Tl.first])
    refine ⟨rfl,by rw[List.length_drop];omega,fun x y e=>⟨rfl,?_,?_⟩⟩
    ·have h3:=first_len hf
     rw[List.length_drop];omega
    ·obtain ⟨rfl,_⟩:=Prod.mk.inj (Option.some.inj e)
     rw[List.length_take,List.length_drop];omega
theorem LeftI.le {j:Nat} {s:De.Rd} (h:LeftI j s):j≤1000:=by have:=h.sz;omega
theorem ask_enter (s:De.Rd) (tag least most:Int):(De.ask s 1 tag least most).1=(De.enter s tag).1:=by
 unfold De.ask
 by_cases he:s.e≠0
 ·rw[if_pos he];unfold De.enter;rw[if_pos he]
 ·rw[if_neg he,if_pos rfl]
structure LeftN (m:Nat) (s:De.Rd):Prop where
 top:s.top.length≤1000
 all:∀ x∈s.left,x.length≤1000
 lev:s.left.length≤m
 e28:s.e≤28
theorem LeftN.mono {m n:Nat} {s:De.Rd} (h:LeftN m s) (hm:m≤n):LeftN n s:=⟨h.top,h.all,Nat.le_trans h.lev hm,h.e28⟩
theorem LeftN.start {l:List Nat} (h:l.length≤1000):LeftN 0 (De.start l):=⟨h,fun x hx=>absurd hx (by show x ∉ ([]:List (List Nat));simp),Nat.le_refl _,De.start_e28⟩
theorem LeftN.next {m:Nat} {s:De.Rd} (h:LeftN m s) (tag:Int):LeftN m (De.next s tag).1:=by
 obtain ⟨n1,n2,_⟩:=next_less (s:=s) (tag:=tag)
 exact ⟨Nat.le_trans n2 h.top,by rw[n1];exact h.all,by rw[n1];exact h.lev,De.next_e28 h.e28⟩
theorem LeftN.enter {m:Nat} {s:De.Rd} (h:LeftN m s) (tag:Int):LeftN (m+1) (De.enter s tag).1:=by
 have h28:(De.enter s tag).1.e≤28:=De.enter_e28 h.e28
 suffices hs:(De.enter s tag).1.top.length≤1000∧(∀ x∈(De.enter s tag).1.left,x.length≤1000)∧(De.enter s tag).1.left.length≤m+1 from ⟨hs.1,hs.2.1,hs.2.2,h28⟩
 have hl:=h.lev
 unfold De.enter
 by_cases he:s.e≠0
 ·rw[if_pos he];exact ⟨h.top,h.all,Nat.le_succ_of_le hl⟩
 rw[if_neg he]
 by_cases hq:s.top≠[]∧Tl.made tag=false
 ·rw[if_pos hq];exact ⟨h.top,h.all,by show s.left.length≤m+1;omega⟩
 rw[if_neg hq]
 have hn1:=h.next tag
 obtain ⟨n1,n2,n3⟩:=next_less (s:=s) (tag:=tag)
 cases hn:De.next s tag with
 |mk s2 r =>
  rw[hn] at hn1 n1 n2 n3
  have hl2:=hn1.lev
  cases r with
  |none=>exact ⟨hn1.top,hn1.all,by show s2.left.length≤m+1;exact Nat.le_succ_of_le hl2⟩
  |some xy =>
   obtain ⟨x,y⟩:=xy
   have hx:=(n3 x y rfl).2.2
   have ht:=h.top
   have ht2:=hn1.top
   refine ⟨by show x.length≤1000;omega,fun z hz=>?_,by show (s2.top :: s2.left).length≤m+1;rw[List.length_cons];exact Nat.succ_le_succ hl2⟩
   rcases List.mem_cons.1 hz with hz|hz
   ·rw[hz];exact ht2
   ·exact hn1.all z hz
theorem LeftN.leave {m:Nat} {s:De.Rd} (h:LeftN m s):LeftN m (De.leave s):=by
 have h28:(De.leave s).e≤28:=De.leave_e28 h.e28
 suffices hs:(De.leave s).top.length≤1000∧(∀ x∈(De.leave s).left,x.length≤1000)∧(De.leave s).left.length≤m from ⟨hs.1,hs.2.1,hs.2.2,h28⟩
 unfold De.leave
 have hl:=h.lev
 split
 ·exact ⟨h.top,h.all,h.lev⟩
 ·split
  ·exact ⟨h.top,h.all,h.lev⟩
  ·rename_i o r hlf
   rw[hlf] at hl
   have ho:=h.all o (by rw[hlf];exact List.mem_cons_self ..)
   have hr:∀ x∈r,x.length≤1000:=fun x hx=>h.all x (by rw[hlf];exact List.mem_cons_of_mem _ hx)
   rw[List.length_cons] at hl
   split
   ·exact ⟨h.top,h.all,h.lev⟩
   ·exact ⟨ho,hr,by show r.length≤m;omega⟩
theorem LeftN.said {m:Nat} {s:De.Rd} (h:LeftN m s) (k tag least most:Int) (h1:k≠1) (h2:k≠2):LeftN m (De.ask s k tag least most).1:=by
 have h28:(De.ask s k tag least most).1.e≤28:=De.ask_e28 h.e28
 suffices hs:(De.ask s k tag least most).1.top.length≤1000∧(∀ x∈(De.ask s k tag least most).1.left,x.length≤1000)∧(De.ask s k tag least most).1.left.length≤m from ⟨hs.1,hs.2.1,hs.2.2,h28⟩
 unfold De.ask
 by_cases he:s.e≠0
 ·rw[if_pos he];exact ⟨h.top,h.all,h.lev⟩
 rw[if_neg he,if_neg h1,if_neg h2]
 by_cases h11:k=11
 ·rw[if_pos h11]
  have hn1:=h.next 0
  cases hn:De.next s 0 with
  |mk s2 r =>
   rw[hn] at hn1
   cases r with
   |none=>exact ⟨hn1.top,hn1.all,hn1.lev⟩
   |some xy=>exact ⟨hn1.top,hn1.all,hn1.lev⟩
 ·rw[if_neg h11]
  have hn1:=h.next (De.tagOf k)
  cases hn:De.next s (De.tagOf k) with
  |mk s2 r =>
   rw[hn] at hn1
   cases r with
   |none=>exact ⟨hn1.top,hn1.all,hn1.lev⟩
   |some xy =>
    obtain ⟨x,y⟩:=xy
    simp only
    cases De.said k least most x with
    |error e=>exact ⟨hn1.top,hn1.all,hn1.lev⟩
    |ok v=>exact ⟨hn1.top,hn1.all,hn1.lev⟩
theorem LeftN.first {m:Nat} {s:De.Rd} (h:LeftN m s):∀ l,(∃ t i n,Tl.first s.top=.ok (t,i,n)∧l=(s.top.drop i).take n)→l.length≤1000:=by
 rintro l ⟨t,i,n,_,rfl⟩
 have:=h.top
 rw[List.length_take,List.length_drop];omega
end Go.Proofs.YtjjbkpjjmbfdhaaGreatDoor
namespace Go.Proofs.YtjjbkpjjmbfdhaaGreatDoor
open Go.RowKit
def inT (t:Int):Prop:=-9223372036854775808≤t∧t≤9223372036854775807
def isMk (m:Int):Prop:=0≤m∧m<32768
instance (m:Int):Decidable (isMk m):=by unfold isMk;infer_instance
def TxPlain (w:World):Prop:=∀ (s:ByteArray) (W:World),s.size≤1000→w.grownBy W none→Calls Tryz.prog 137 #[.string s] W fun e w'=>W.grownBy w' none∧e=.returned (.bool (Pt.plain (strL s)))
def TxPut (A:Nat→Addr) (w:World):Prop:=∀ (s:ByteArray) (most:Int) (W:World),s.size≤1000→inT most→w.grownBy W none→Calls Tryz.prog 62 #[.string s,.int .i64 most] W fun e w'=>W.grownBy w' none ∧
 if Pt.asked (strL s) most=0 then ∃ a c,e=.returned (.tuple #[.slice a s.size c,.nilIface])∧Bytes w' (.slice a s.size c) (strL s) else ∃ a c,e=.returned (.tuple #[.slice a 0 c,errV A (Pt.asked (strL s) most)])
def TxGet (A:Nat→Addr) (w:World):Prop:=∀ (v:Value) (s:ByteArray) (most:Int) (W:World),s.size≤1000→inT most→w.grownBy W none→Bytes W v (strL s)→Calls Tryz.prog 83 #[v,.int .i64 most] W fun e w'=>W.grownBy w' none ∧
 e=.returned (.tuple (if Pt.asked (strL s) most=0 then #[.string s,.nilIface] else #[.string ⟨#[]⟩,errV A (Pt.asked (strL s) most)]))
abbrev cmpV:Value:=.func (.func 143) #[] #[]
end Go.Proofs.YtjjbkpjjmbfdhaaGreatDoor
