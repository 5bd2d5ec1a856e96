import Derived.Test.YtgdnndapmcjoeaaDoorKe02
import Derived.Test.YtgdnndapmcjoeaaDoorKe13
import Derived.Test.YtgdnndapmcjoeaaDoorKe15
namespace Go.Proofs.YtgdnndapmcjoeaaDoor
open Go.RowKit
def intL (ws : List Nat) : List Value := ws.map fun (x : Nat) => Value.int .i64 (x : Int)
end Go.Proofs.YtgdnndapmcjoeaaDoor
namespace Go.Proofs.YtgdnndapmcjoeaaDoor
open Go.RowKit
def tableV : Array Value := (intL Co.table).toArray
set_option maxRecDepth 100000 in
set_option maxHeartbeats 1000000 in
theorem table_any (w : World) :
    Calls Tryd.prog 62 #[] w fun e w' => e = .returned (.slice (some ⟨w.heap.size, 0, none⟩) 64 64) ∧ w' = w.alloc (.cells tableV 3) := by
  go_enter Tryd.func62, Tryd.ntmps62
  go_wp2
  go_ret
  exact ⟨rfl, rfl⟩
/-- The slice v has just the ints l. -/
def IntsAt (w : World) (v : Value) (l : List Nat) : Prop :=
  ∃ (a : Option Addr) (g c : Nat), v = .slice a l.length c ∧ l.length ≤ c ∧ (0 < l.length → a = some ⟨g, 0, none⟩ ∧ g < w.heap.size) ∧ ∀ j, j < l.length → w.cell? ⟨g, j, none⟩ = some (.int .i64 (l.getD j 0 : Nat))
theorem IntsAt.grown {w w' : World} {v : Value} {l : List Nat} (h : IntsAt w v l) (hg : w.grownBy w' none) : IntsAt w' v l := by
  obtain ⟨a, g, c, rfl, h1, h2, h3⟩ := h
  exact ⟨a, g, c, rfl, h1, fun h => ⟨(h2 h).1, Nat.lt_of_lt_of_le (h2 h).2 hg.size⟩, fun j hj => by
    rw [World.cell?_of_block (hg.block g (h2 (by omega)).2 (by simp))]; exact h3 j hj⟩
end Go.Proofs.YtgdnndapmcjoeaaDoor
