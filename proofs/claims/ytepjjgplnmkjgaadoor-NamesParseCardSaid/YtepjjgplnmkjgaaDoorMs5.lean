/- The walk of mac's Frame. -/
import Derived.Test.YtepjjgplnmkjgaaDoorMs4
namespace Go.Proofs.YtepjjgplnmkjgaaDoor
open Go.RowKit

/-- What the two errors' variables hold. -/
structure Errs (w : World) (eT eL : Value) : Prop where
  text : w.cell? ⟨8, 0, none⟩ = some eT
  long : w.cell? ⟨3, 0, none⟩ = some eL
  size : 8 < w.heap.size ∧ 3 < w.heap.size
theorem Errs.grown {w w' : World} {eT eL : Value} (h : Errs w eT eL) (hg : w.grownBy w' none) : Errs w' eT eL :=
  ⟨by rw [World.cell?_of_block (hg.block _ h.size.1 (by simp))]; exact h.text, by rw [World.cell?_of_block (hg.block _ h.size.2 (by simp))]; exact h.long, Nat.lt_of_lt_of_le h.size.1 hg.size, Nat.lt_of_lt_of_le h.size.2 hg.size⟩

/-- What Frame answers. -/
def FramePost (w : World) (s : ByteArray) (parts : List (List Nat)) (eT eL : Value) (e : Ending) (w' : World) : Prop :=
  w.grownBy w' none ∧ ∃ v u, e = .returned (.tuple #[v, u]) ∧
    ((fErr (strL s) parts = 0 ∧ u = .nilIface ∧ FrW w w' v (frameOf (strL s) parts)) ∨
     (fErr (strL s) parts = 8 ∧ v = .slice none 0 0 ∧ u = eT) ∨
     (fErr (strL s) parts = 3 ∧ v = .slice none 0 0 ∧ u = eL))

end Go.Proofs.YtepjjgplnmkjgaaDoor
