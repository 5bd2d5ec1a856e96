import Derived.Test.YtjjbkpjjmbfdhaaGreatDoorZb00
import Derived.Test.YtjjbkpjjmbfdhaaGreatDoorZb03
import Derived.Test.YtjjbkpjjmbfdhaaGreatDoorZb09
import Derived.Test.YtjjbkpjjmbfdhaaGreatDoorZb11
import Derived.Test.YtjjbkpjjmbfdhaaGreatDoorZb17
import Derived.Test.YtjjbkpjjmbfdhaaGreatDoorZb18
import Derived.Test.YtjjbkpjjmbfdhaaGreatDoorZb26
import Derived.Shelf.Strings.OnBuilder
import Derived.Shelf.Strings.Search3
import Derived.Shelf.Slices.Equal
import Derived.Test.YtjjbkpjjmbfdhaaGreatDoorProg
import Derived.BigQuiet
import Derived.Lib.IndexBytes
set_option linter.unusedVariables false
set_option linter.unusedSimpArgs false
namespace Go.Proofs.YtjjbkpjjmbfdhaaGreatDoor
open Go.RowKit
theorem FrW.nil (w:World):FrW w w (.slice none 0 0) []:=⟨grown_refl _ _,World.ownsRow_nil _ _ _ _⟩
attribute [local go_sem] Oper.semAt_some
theorem svalF_le:∀ (m:List Nat) (a:Nat),a≤m.foldl (fun a c=>a*128+c%128) a
 |[],a=>Nat.le_refl _
 |c :: r,a=>by
  rw[List.foldl_cons]
  exact Nat.le_trans (by omega) (svalF_le r _)
theorem sval_take (l:List Nat) (k:Nat):Od.sval (l.take k)≤Od.sval l:=by
 conv=>rhs;rw[←List.take_append_drop k l]
 rw[Od.sval,Od.sval,List.foldl_append]
 exact svalF_le _ _
end Go.Proofs.YtjjbkpjjmbfdhaaGreatDoor
