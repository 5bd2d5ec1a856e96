import Derived.Test.YtndkifkhdollgaaGreatDoorZs00
import Derived.Test.YtndkifkhdollgaaGreatDoorZs08
import Derived.Test.YtndkifkhdollgaaGreatDoorZs11
import Derived.Test.YtndkifkhdollgaaGreatDoorZs12
import Derived.Test.YtndkifkhdollgaaGreatDoorZs21
import Derived.Test.YtndkifkhdollgaaGreatDoorZs22
import Derived.Test.YtndkifkhdollgaaGreatDoorZs25
import Derived.Test.YtndkifkhdollgaaGreatDoorZs32
import Derived.Test.YtndkifkhdollgaaGreatDoorZs33
import Derived.Test.YtndkifkhdollgaaGreatDoorZs41
import Derived.Test.YtndkifkhdollgaaGreatDoorZs43
import Derived.Test.YtndkifkhdollgaaGreatDoorZs46
import Derived.BigQuiet
import Derived.Shelf.Strings.OnBuilder
import Derived.Shelf.Strings.Search3
import Derived.Shelf.Slices.Equal
import Derived.Test.YtndkifkhdollgaaGreatDoorProg
import Derived.Test.YtndkifkhdollgaaGreatDoorChecked
import Derived.WalkKit
import Derived.OwnWalkIn
import Derived.TacticsInMore
import Derived.LoopNIn
import Derived.LoopIn
import Derived.Lib.Hide
import Derived.Shelf.RegionOpen
import Derived.Maps.AppendAt
import Derived.Lib.IndexBytes
import Derived.RangeFuncNested
import Derived.RangeFuncLeaves
set_option linter.unusedVariables false
set_option linter.unusedSimpArgs false
namespace Go.Proofs.YtndkifkhdollgaaGreatDoor
open Go.RowKit
def AnsV (w:World) (k:Int) (x:De.Val) (W:World) (v:Value):Prop :=
 if k=5 then v=.bool x.is else if k=6 then (∃ a c,v=.slice a x.b.length c)∧Sup (fun j=>w.heap.size≤j∧j<W.heap.size) W (fun X=>Bytes X v x.b∧Whole0 v) else if k=7∨k=8 then v=.string (strOf x.t) else v=.int .i64 x.n
def only (k:Int) (x:De.Val):Prop:=x=if k=5 then { De.none0 with is:=x.is } else if k=6 then { De.none0 with b:=x.b } else if k=7∨k=8 then { De.none0 with t:=x.t } else { De.none0 with n:=x.n }
theorem only_none (k:Int):only k De.none0:=by
 unfold only
 by_cases h5:k=5
 ·rw[if_pos h5]
 ·rw[if_neg h5]
  by_cases h6:k=6
  ·rw[if_pos h6]
  ·rw[if_neg h6]
   by_cases h7:k=7∨k=8
   ·rw[if_pos h7]
   ·rw[if_neg h7]
theorem said_only {k least most:Int} {l:List Nat} {x:De.Val} (h:De.said k least most l=.ok x):only k x:=by
 unfold De.said at h
 unfold only
 by_cases h34:k=3∨k=4
 ·rw[if_pos h34] at h
  rw[if_neg (by omega),if_neg (by omega),if_neg (by omega)]
  cases hg:Wh.get l with
  |error e=>rw[hg] at h;exact absurd h (by simp)
  |ok n =>
   rw[hg] at h
   have h:(if n<least∨most<n then (Except.error 1:Except Nat De.Val) else .ok { De.none0 with n:=n })=.ok x:=h
   split at h
   ·exact absurd h (by simp)
   ·obtain rfl:=Except.ok.inj h;rfl
 rw[if_neg h34] at h
 by_cases h5:k=5
 ·rw[if_pos h5] at h ⊢
  split at h
  ·exact absurd h (by simp)
  ·split at h
   ·exact absurd h (by simp)
   ·obtain rfl:=Except.ok.inj h;rfl
 rw[if_neg h5] at h ⊢
 by_cases h6:k=6
 ·rw[if_pos h6] at h ⊢
  split at h
  ·exact absurd h (by simp)
  ·split at h
   ·exact absurd h (by simp)
   ·obtain rfl:=Except.ok.inj h;rfl
 rw[if_neg h6] at h ⊢
 by_cases h7:k=7
 ·rw[if_pos h7] at h
  rw[if_pos (.inl h7)]
  split at h
  ·obtain rfl:=Except.ok.inj h;rfl
  ·exact absurd h (by simp)
 rw[if_neg h7] at h
 by_cases h8:k=8
 ·rw[if_pos h8] at h
  rw[if_pos (.inr h8)]
  cases hg:Od.get l with
  |error e=>rw[hg] at h;exact absurd h (by simp)
  |ok n=>rw[hg] at h;obtain rfl:=Except.ok.inj h;rfl
 rw[if_neg h8] at h
 rw[if_neg (by omega)]
 by_cases h9:k=9
 ·rw[if_pos h9] at h
  cases hg:Cal.get l with
  |error e=>rw[hg] at h;exact absurd h (by simp)
  |ok n=>rw[hg] at h;obtain rfl:=Except.ok.inj h;rfl
 rw[if_neg h9] at h
 cases hg:Pt.mask l with
 |error e=>rw[hg] at h;exact absurd h (by simp)
 |ok n=>rw[hg] at h;obtain rfl:=Except.ok.inj h;rfl
def Tells (w:World) (k least most:Int) (r:List Nat→Except Nat (World→Value→Prop)):Prop:=∀ l,match De.said k least most l with
 |.error e=>r l=.error e
 |.ok x=>∃ V,r l=.ok V∧∀ W v,V W v→AnsV w k x W v
theorem tells_num (w:World) (k least most:Int) (hk:k=3∨k=4):Tells w k least most (numR least most):=fun l=>by
 rw[said_num k least most hk]
 unfold numR rangeOf
 cases hg:Wh.get l with
 |error e =>
  have he:=(show e≠0 from by
   intro h0;subst h0
   revert hg;unfold Wh.get
   repeat' split
   all_goals simp)
  show (if e=0 then _ else _)=_
  rw[if_neg he]
 |ok n =>
  simp only
  by_cases hb:n<least∨most<n
  ·rw[if_pos hb,if_pos hb];rfl
  ·rw[if_neg hb,if_neg hb]
   refine ⟨_,if_pos rfl,fun W v hv=>?_⟩
   unfold AnsV
   rw[if_neg (by omega),if_neg (by omega),if_neg (by omega)]
   exact hv
section
variable {A:Nat→Addr} {W0 w w2:World} {F:Nat→Prop} {b:Nat} {s:De.Rd}
theorem PrR.sane (h:PrR A W0 F b s w):De.Sane s:=by
 by_cases he:s.e=0
 ·obtain ⟨_,_,_,_,_,h2⟩:=h.at0 he
  exact h2.sane
 ·exact fun h0=>absurd h0 he
structure AskPost (A:Nat→Addr) (W0:World) (F:Nat→Prop) (b:Nat) (s:De.Rd) (k tag least most:Int) (w w':World) (v:Value):Prop where
 upto:Upto F w w'
 rd:PrR A W0 (Ext F w w') b (De.ask s k tag least most).1 w'
 ans:AnsV w k (De.ask s k tag least most).2 w' v
 one:only k (De.ask s k tag least most).2
theorem ask_out {w':World} {Z v:Value} {k tag least most:Int} {r:List Nat→Except Nat (World→Value→Prop)} (h:PrR A W0 F b s w) (h1:k≠1) (h2:k≠2) (h11:k≠11) (ht:Tells w k least most r) (hp:PrROut A W0 F b w w' Z (readP s (De.tagOf k) r) (.returned v)) (hZ:AnsV w k De.none0 w' Z) :
  AskPost A W0 F b s k tag least most w w' v:=by
 obtain ⟨q1,q2,q3⟩:=hp
 obtain ⟨p1,p2,p3⟩:=ask_read (s:=s) h.sane k tag least most h1 h2 h11 r (fun l=>by
  have:=ht l
  revert this
  cases De.said k least most l with
  |error e=>exact fun h=>h
  |ok x=>exact fun ⟨V,hV,_⟩=>⟨V,hV⟩)
 have hst:PrR A W0 (Ext F w w') b (De.ask s k tag least most).1 w':=by
  by_cases he:(readP s (De.tagOf k) r).1.e=0
  ·rw[←p2 he];exact q2
  ·exact q2.err_any he p1.symm
 revert q3 p3
 cases (readP s (De.tagOf k) r).2 with
 |none =>
  intro q3 p3
  have q3:Ending.returned v=.returned Z:=q3
  have p3:(De.ask s k tag least most).2=De.none0:=p3
  refine ⟨q1,hst,?_,?_⟩
  ·rw[p3];obtain rfl:=Ending.returned.inj q3;exact hZ
  ·rw[p3];exact only_none k
 |some V =>
  intro q3 p3
  obtain ⟨v',e,hv⟩:∃ v',Ending.returned v=.returned v'∧V w' v':=q3
  obtain rfl:=Ending.returned.inj e
  obtain ⟨l,hl,hs⟩:∃ l,r l=.ok V∧De.said k least most l=.ok (De.ask s k tag least most).2:=p3
  have:=ht l
  rw[hs] at this
  obtain ⟨V2,e2,h3⟩:∃ V,r l=.ok V∧∀ W v,V W v→AnsV w k (De.ask s k tag least most).2 W v:=this
  rw[hl] at e2
  obtain rfl:=Except.ok.inj e2
  exact ⟨q1,hst,h3 _ _ hv,said_only hs⟩
theorem ans_none (w:World) (k:Int) (W:World) (hw:w.heap.size≤W.heap.size):AnsV w k De.none0 W (if k=5 then .bool false else if k=6 then .slice none 0 0 else if k=7∨k=8 then .string ⟨#[]⟩ else .int .i64 0):=by
 unfold AnsV
 by_cases h5:k=5
 ·rw[if_pos h5,if_pos h5];rfl
 rw[if_neg h5,if_neg h5]
 by_cases h6:k=6
 ·rw[if_pos h6,if_pos h6]
  exact ⟨⟨none,0,rfl⟩,fun j hj=>hj.2,fun W' _=>⟨⟨by simp[De.none0],none,0,0,0,rfl,Nat.le_refl _,fun h=>absurd h (by simp[De.none0]),fun j hj=>absurd hj (by simp[De.none0])⟩,fun n c e=>by cases e;exact ⟨rfl,rfl⟩⟩⟩
 rw[if_neg h6,if_neg h6]
 by_cases h7:k=7∨k=8
 ·rw[if_pos h7,if_pos h7];rfl
 ·rw[if_neg h7,if_neg h7];rfl
end
section
variable {A:Nat→Addr} {W0 w:World} {F:Nat→Prop} {b:Nat} {s:De.Rd}
end
section
variable {A:Nat→Addr} {W0 w:World} {F:Nat→Prop} {b:Nat} {s:De.Rd}
theorem ans_num {k:Int} {x:De.Val} {w W:World} {v:Value} (h:AnsV w k x W v) (h1:only k x) (hk:k≠5∧k≠6∧k≠7∧k≠8):v=.int .i64 x.n∧x.is=false∧x.b=[]∧x.t=[]:=by
 unfold AnsV at h;unfold only at h1
 rw[if_neg hk.1,if_neg hk.2.1,if_neg (by omega)] at h h1
 exact ⟨h,by rw[h1];rfl,by rw[h1];rfl,by rw[h1];rfl⟩
end
end Go.Proofs.YtndkifkhdollgaaGreatDoor
