import Derived.Test.YtijkaknggdaajaaGreatDoorZt20
import Derived.Test.YtijkaknggdaajaaGreatDoorZt30
set_option linter.unusedVariables false
set_option linter.unusedSimpArgs false
namespace Go.Proofs.YtijkaknggdaajaaGreatDoor
namespace De
theorem onums_err28:∀ (f most:Nat) (l:List Nat) {k:Nat},Od.nums f most l=.error k→k≤28
 |f,_,[],_,h=>by cases f <;> simp[Od.nums] at h
 |0,_,_ :: _,k,h=>by
  have h2:0=k:=Except.error.inj h
  omega
 |f+1,most,c :: l,k,h=>by
  rw[Od.nums] at h
  cases hp:Od.piece (c :: l) with
  |none=>rw[hp] at h;have:=Except.error.inj h;omega
  |some p =>
   obtain ⟨p,t⟩:=p
   rw[hp] at h
   have h:(if p.head?=some 128 then (Except.error 4:Except Nat (List Nat)) else if most<Od.sval p then .error 1 else match Od.nums f 2147483647 t with
    |.error k=>.error k
    |.ok r=>.ok (Od.sval p :: r))=.error k:=h
   split at h
   ·have:=Except.error.inj h;omega
   ·split at h
    ·have:=Except.error.inj h;omega
    ·cases hn:Od.nums f 2147483647 t with
     |error e=>rw[hn] at h;obtain rfl:=Except.error.inj h;exact onums_err28 f _ t hn
     |ok r=>rw[hn] at h;exact absurd h (by simp)
theorem oget_err28 {l:List Nat} {k:Nat} (h:Od.get l=.error k):k≤28:=by
 unfold Od.get at h
 cases hn:Od.nums l.length 2147483727 l with
 |error e=>rw[hn] at h;obtain rfl:=Except.error.inj h;exact onums_err28 _ _ l hn
 |ok r =>
  rw[hn] at h
  cases r with
  |nil=>have:=Except.error.inj h;omega
  |cons n r =>
   revert h
   simp only
   split
   ·intro h;exact absurd h (by simp)
   ·intro h;have:=Except.error.inj h;omega
theorem said_err28 {k least most:Int} {l:List Nat} {e:Nat} (h:De.said k least most l=.error e):e≤28:=by
 unfold De.said at h
 split at h
 ·cases hw:Wh.get l with
  |error j =>
   rw[hw] at h
   cases h
   revert hw
   unfold Wh.get
   repeat' split
   all_goals (intro hw;first|(have:=Except.error.inj hw;omega)|exact absurd hw (by simp))
  |ok n =>
   rw[hw] at h
   simp only at h
   split at h
   ·cases h;decide
   ·cases h
 split at h
 ·(repeat' split at h) <;> first|(cases h;decide)|cases h
 split at h
 ·(repeat' split at h) <;> first|(cases h;decide)|cases h
 split at h
 ·split at h
  ·cases h
  ·cases h;exact asked_le _ _
 split at h
 ·cases ho:Od.get l with
  |error j=>rw[ho] at h;cases h;exact oget_err28 ho
  |ok n=>rw[ho] at h;cases h
 split at h
 ·cases ho:Cal.get l with
  |error j =>
   rw[ho] at h;cases h
   revert ho
   unfold Cal.get
   repeat' split
   all_goals (intro hw;first|(have:=Except.error.inj hw;omega)|exact absurd hw (by simp))
  |ok n=>rw[ho] at h;cases h
 ·cases ho:Pt.mask l with
  |error j =>
   rw[ho] at h;cases h
   revert ho
   unfold Pt.mask
   repeat' split
   all_goals (intro hw;first|(have:=Except.error.inj hw;omega)|exact absurd hw (by simp))
  |ok n=>rw[ho] at h;cases h
theorem next_e28 {s:Rd} {tag:Int} (h:s.e≤28):(next s tag).1.e≤28:=by
 unfold next
 split
 ·exact h
 ·cases hf:Tl.first s.top with
  |error e=>exact first_err28 hf
  |ok p =>
   obtain ⟨t,i,n⟩:=p
   simp only
   split
   ·show 5≤28;decide
   ·exact h
theorem enter_e28 {s:Rd} {tag:Int} (h:s.e≤28):(enter s tag).1.e≤28:=by
 unfold enter
 split
 ·exact h
 ·split
  ·show 5≤28;decide
  ·have:=next_e28 (tag:=tag) h
   split
   ·rename_i hn;rw[hn] at this;exact this
   ·rename_i hn;rw[hn] at this;exact this
theorem leave_e28 {s:Rd} (h:s.e≤28):(leave s).e≤28:=by
 unfold leave
 split
 ·exact h
 ·split
  ·show 24≤28;decide
  ·split
   ·show 4≤28;decide
   ·exact h
theorem ask_e28 {s:Rd} {k tag least most:Int} (h:s.e≤28):(ask s k tag least most).1.e≤28:=by
 unfold ask
 split
 ·exact h
 split
 ·exact enter_e28 h
 split
 ·exact leave_e28 h
 split
 ·have:=next_e28 (tag:=0) h
  split
  ·rename_i hn;rw[hn] at this;exact this
  ·rename_i hn;rw[hn] at this;exact this
 ·have:=next_e28 (tag:=tagOf k) h
  split
  ·rename_i hn;rw[hn] at this;exact this
  ·rename_i hn
   rw[hn] at this
   split
   ·rename_i he;exact said_err28 he
   ·exact this
theorem start_e28 {b:List Nat}:(start b).e≤28:=by
 unfold start
 show (match Tl.levels b with
 |.error e=>e
 |.ok _=>0)≤28
 cases h:Tl.levels b with
 |error e=>exact levels_err28 h
 |ok n=>exact Nat.zero_le _
end De
end Go.Proofs.YtijkaknggdaajaaGreatDoor
