/- Bytes in a slice. -/
import Derived.Test.YtndgbhgalablfaaDoorLib
namespace Go.Proofs.YtndgbhgalablfaaDoor
open Go.RowKit

def bytesV (ws : List Nat) : Array Value := (ws.map fun (x : Nat) => Value.int .u8 (x : Int)).toArray
theorem bytesV_at (ws : List Nat) (i : Nat) (h : i < ws.length) : (bytesV ws)[i]? = some (.int .u8 (ws.getD i 0 : Nat)) := by
  simp [bytesV, h]
theorem bytesV_size (ws : List Nat) : (bytesV ws).size = ws.length := by simp [bytesV]
/-- The slice v has just the bytes l. -/
structure Bytes (w : World) (v : Value) (l : List Nat) : Prop where
  lt : ∀ x ∈ l, x < 256
  at_ : ∃ (a : Option Addr) (sb so c : Nat), v = .slice a l.length c ∧ l.length ≤ c ∧ (0 < l.length → a = some ⟨sb, so, none⟩ ∧ sb < w.heap.size) ∧
    ∀ j, j < l.length → w.cell? ⟨sb, so + j, none⟩ = some (.int .u8 (l.getD j 0 : Nat))
theorem Bytes.grown {w w' : World} {v : Value} {l : List Nat} (h : Bytes w v l) (hg : w.grownBy w' none) : Bytes w' v l := by
  obtain ⟨h1, a, sb, so, c, h2, h3, h4, h5⟩ := h
  exact ⟨h1, a, sb, so, c, h2, h3, fun h => ⟨(h4 h).1, Nat.lt_of_lt_of_le (h4 h).2 hg.size⟩, fun j hj => by
    rw [World.cell?_of_block (hg.block sb (h4 (by omega)).2 (by simp))]; exact h5 j hj⟩

end Go.Proofs.YtndgbhgalablfaaDoor
