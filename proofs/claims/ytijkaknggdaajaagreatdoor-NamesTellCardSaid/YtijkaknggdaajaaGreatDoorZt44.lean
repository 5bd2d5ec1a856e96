import Derived.Test.YtijkaknggdaajaaGreatDoorZt14
import Derived.Test.YtijkaknggdaajaaGreatDoorZt25
import Derived.Test.YtijkaknggdaajaaGreatDoorZt29
import Derived.Test.YtijkaknggdaajaaGreatDoorZt33
import Derived.Test.YtijkaknggdaajaaGreatDoorZt43
import Derived.Lib.SmallJoins
set_option linter.unusedVariables false
set_option linter.unusedSimpArgs false
namespace Go.Proofs.YtijkaknggdaajaaGreatDoor
open Go.RowKit
theorem PrW.new {A:Nat→Addr} {W0 w:World} (hb:W0.grownBy w none) :
  PrW A W0 (fun k=>k=w.heap.size) w.heap.size De.St.zero (w.alloc (.cells #[.slice none 0 0,.slice none 0 0,.nilIface] 55)):=by
 have hs:(w.alloc (.cells #[.slice none 0 0,.slice none 0 0,.nilIface] 55)).heap.size=w.heap.size+1:=alloc_size _ _
 have h0:=hb.size
 refine ⟨grown_alloc hb _,fun k hk=>⟨by rw[hk];exact h0,by rw[hs,hk];omega⟩,rfl,.slice none 0 0,.slice none 0 0,alloc_at w _,fun _=>⟨0,fun _=>.slice none 0 0,rfl,by omega,fun k hk=>?_,by simp[Value.ownBlock],by simp[Value.ownBlock],fun j hj=>absurd hj (by omega),fun i j hi=>absurd hi (by omega),⟨[],⟨rfl,.inl ⟨rfl,rfl⟩⟩,fun j hj=>absurd hj (by omega)⟩,⟨rfl,.inl ⟨rfl,rfl⟩⟩,by simp[De.St.zero],fun j hj=>absurd hj (by omega)⟩⟩
 rcases hk with hk|hk|hk|⟨j,hj,hk⟩
 ·exact hk
 ·exact absurd hk (by simp[Value.ownBlock])
 ·exact absurd hk (by simp[Value.ownBlock])
 ·omega
theorem prOpen_step {A:Nat→Addr} {W0 w:World} {F:Nat→Prop} {b:Nat} {s:De.St} (h:PrW A W0 F b s w) (hA:BodiesOf A W0) (v:De.Val) (hk:v.kind=1) :
  Calls Tryz.prog 24 #[.pointer (some ⟨b,0,none⟩),.int .i64 v.n] w fun e w'=>PrPost A W0 F b w w' (De.step s v) e:=by
 have hst:De.step s v=if s.e=0 then De.opn s v.n else s:=by
  unfold De.step
  by_cases he:s.e=0
  ·rw[if_pos he,if_neg (fun h=>h he),if_pos hk]
  ·rw[if_neg he,if_pos he]
 rw[hst]
 exact prOpen_any h hA.errs v.n
end Go.Proofs.YtijkaknggdaajaaGreatDoor
