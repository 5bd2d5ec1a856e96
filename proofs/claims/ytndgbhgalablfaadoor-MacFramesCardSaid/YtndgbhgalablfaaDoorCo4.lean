/- The walk of the constants. The walks of the table, of the comparison of lists and of the law ShaConstants. -/
import Derived.Test.YtndgbhgalablfaaDoorCo2
import Derived.Test.YtndgbhgalablfaaDoorByt
import Derived.Test.YtndgbhgalablfaaDoorSh11
namespace Go.Proofs.YtndgbhgalablfaaDoor
open Go.RowKit

def intL (ws : List Nat) : List Value := ws.map fun (x : Nat) => Value.int .i64 (x : Int)

end Go.Proofs.YtndgbhgalablfaaDoor
namespace Go.Proofs.YtndgbhgalablfaaDoor
open Go.RowKit

def tableV : Array Value := (intL Co.table).toArray
set_option maxRecDepth 100000 in
set_option maxHeartbeats 1000000 in
theorem table_any (w : World) :
    Calls Tryd.prog 57 #[] w fun e w' => e = .returned (.slice (some ⟨w.heap.size, 0, none⟩) 64 64) ∧ w' = w.alloc (.cells tableV 3) := by
  go_enter Tryd.func57, Tryd.ntmps57
  go_wp2
  go_ret
  exact ⟨rfl, rfl⟩

/-- The slice v has just the ints l. -/
def IntsAt (w : World) (v : Value) (l : List Nat) : Prop :=
  ∃ (a : Option Addr) (g c : Nat), v = .slice a l.length c ∧ l.length ≤ c ∧ (0 < l.length → a = some ⟨g, 0, none⟩ ∧ g < w.heap.size) ∧ ∀ j, j < l.length → w.cell? ⟨g, j, none⟩ = some (.int .i64 (l.getD j 0 : Nat))


theorem intsAt_own {w : World} {base : Nat} {v : Value} {l : List Nat} {n : Nat} (h : w.ownsRow base 3 1 v n (intL l)) (hn : n = l.length) : IntsAt w v l := by
  subst hn
  obtain ⟨a, g, c, rfl, h1, h2, h3, h4⟩ := ownsRow_form h
  exact ⟨a, g, c, rfl, h1, fun h => ⟨(h3 h).1, (h3 h).2.2⟩, fun j hj => by rw [h4 j hj]; simp [intL, hj]⟩
theorem intsAt_blk {w : World} {g : Nat} {l : List Nat} (h : w.heap[g]? = some (.cells (intL l).toArray 3 (0, 0))) : IntsAt w (.slice (some ⟨g, 0, none⟩) l.length l.length) l :=
  ⟨_, g, _, rfl, Nat.le_refl _, fun _ => ⟨rfl, blk_lt h⟩, fun j hj => cell_blk h j (by simp [intL, hj])⟩
theorem IntsAt.grown {w w' : World} {v : Value} {l : List Nat} (h : IntsAt w v l) (hg : w.grownBy w' none) : IntsAt w' v l := by
  obtain ⟨a, g, c, rfl, h1, h2, h3⟩ := h
  exact ⟨a, g, c, rfl, h1, fun h => ⟨(h2 h).1, Nat.lt_of_lt_of_le (h2 h).2 hg.size⟩, fun j hj => by
    rw [World.cell?_of_block (hg.block g (h2 (by omega)).2 (by simp))]; exact h3 j hj⟩

end Go.Proofs.YtndgbhgalablfaaDoor
