import Derived.Test.YtjjbkpjjmbfdhaaGreatDoorZb19
import Derived.Test.YtjjbkpjjmbfdhaaGreatDoorZb23
import Derived.Test.YtjjbkpjjmbfdhaaGreatDoorZb28
import Derived.Test.YtjjbkpjjmbfdhaaGreatDoorZb40
import Derived.Test.YtjjbkpjjmbfdhaaGreatDoorZb43
import Derived.Lib.SmallJoins
set_option linter.unusedVariables false
set_option linter.unusedSimpArgs false
namespace Go.Proofs.YtjjbkpjjmbfdhaaGreatDoor
open Go.RowKit
theorem PrW.new {A:Nat→Addr} {W0 w:World} (hb:W0.grownBy w none) :
  PrW A W0 (fun k=>k=w.heap.size) w.heap.size De.St.zero (w.alloc (.cells #[.slice none 0 0,.slice none 0 0,.nilIface] 52)):=by
 have hs:(w.alloc (.cells #[.slice none 0 0,.slice none 0 0,.nilIface] 52)).heap.size=w.heap.size+1:=alloc_size _ _
 have h0:=hb.size
 refine ⟨grown_alloc hb _,fun k hk=>⟨by rw[hk];exact h0,by rw[hs,hk];omega⟩,rfl,.slice none 0 0,.slice none 0 0,alloc_at w _,fun _=>⟨0,fun _=>.slice none 0 0,rfl,by omega,fun k hk=>?_,by simp[Value.ownBlock],by simp[Value.ownBlock],fun j hj=>absurd hj (by omega),fun i j hi=>absurd hi (by omega),⟨[],⟨rfl,.inl ⟨rfl,rfl⟩⟩,fun j hj=>absurd hj (by omega)⟩,⟨rfl,.inl ⟨rfl,rfl⟩⟩,by simp[De.St.zero],fun j hj=>absurd hj (by omega)⟩⟩
 rcases hk with hk|hk|hk|⟨j,hj,hk⟩
 ·exact hk
 ·exact absurd hk (by simp[Value.ownBlock])
 ·exact absurd hk (by simp[Value.ownBlock])
 ·omega
theorem prOpen_step {A:Nat→Addr} {W0 w:World} {F:Nat→Prop} {b:Nat} {s:De.St} (h:PrW A W0 F b s w) (hA:BodiesOf A W0) (v:De.Val) (hk:v.kind=1) :
  Calls Tryz.prog 18 #[.pointer (some ⟨b,0,none⟩),.int .i64 v.n] w fun e w'=>PrPost A W0 F b w w' (De.step s v) e:=by
 have hst:De.step s v=if s.e=0 then De.opn s v.n else s:=by
  unfold De.step
  by_cases he:s.e=0
  ·rw[if_pos he,if_neg (fun h=>h he),if_pos hk]
  ·rw[if_neg he,if_pos he]
 rw[hst]
 exact prOpen_any h hA.errs v.n
theorem RunW.start {A:Nat→Addr} {W0 w:World} {F:Nat→Prop} {b:Nat} {s:De.St} (h:PrW A W0 F b s w):RunW A W0 w F F b s w:=⟨Upto.refl F w,h,fun k hk=>.inl hk⟩
theorem RunW.kept {A:Nat→Addr} {W0 w wr:World} {F F':Nat→Prop} {b k:Nat} {s':De.St} (h:RunW A W0 w F F' b s' wr) (hk:k<w.heap.size) (hf:¬ F k):wr.heap[k]?=w.heap[k]?:=h.upto.block k hk hf
theorem RunW.lift {A:Nat→Addr} {W0 w0 w wr:World} {F F':Nat→Prop} {b:Nat} {s':De.St} (hF:∀ k,F k→W0.heap.size≤k∧k<w0.heap.size) (hb:W0.grownBy w0 none) (hg:w0.grownBy w none) (h:RunW A W0 w F F' b s' wr):PrPost A W0 F b w0 wr s' (.returned (.tuple #[])):=by
 have h1:=hg.size
 have h2:=h.upto.size
 refine ⟨rfl,(Upto.of_grown F hg).trans h.upto (fun _ _ h=>h),h.wrt.wide (fun k hk=>?_) (ext_own hb hF (by omega))⟩
 rcases h.sub k hk with h3|h3
 ·exact .inl h3
 ·exact .inr ⟨by omega,h3.2⟩
structure GoodW (m:Nat) (s:De.St):Prop where
 lim:Lim m s
 good:De.Good s
theorem GoodW.step {m:Nat} {s:De.St} (h:GoodW m s) (v:De.Val) (hb:v.b=[]) (ht:∀ x∈v.t,x<256):GoodW (m+1) (De.step s v) :=
 ⟨h.lim.step,De.good_step h.good ⟨by rw[hb];simp,ht⟩⟩
theorem GoodW.mono {m n:Nat} {s:De.St} (h:GoodW m s) (hm:m≤n):GoodW n s:=⟨h.lim.mono hm,h.good⟩
theorem BodiesOf.up9 {A:Nat→Addr} {w w':World} (h:BodiesOf A w) (hg:w.grownBy w' none):BodiesOf A w' where
 errs:=h.errs.grown hg
 texts:=fun s m W h1 h2 h3=>h.texts s m W h1 h2 (grown_trans hg h3)
 moment:=fun t W h1 h2=>h.moment t W h1 (grown_trans hg h2)
theorem GoodW.zero:GoodW 0 De.St.zero:=⟨Lim.zero,De.good_zero⟩
end Go.Proofs.YtjjbkpjjmbfdhaaGreatDoor
