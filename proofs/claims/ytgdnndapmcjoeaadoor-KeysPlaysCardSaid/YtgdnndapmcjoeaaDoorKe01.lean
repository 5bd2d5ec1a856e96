import Derived.WalkKit
import Derived.Deep.MidRow
import Derived.Deep.Draws
namespace Go.Proofs.YtgdnndapmcjoeaaDoor
open Go.RowKit
theorem ret_int {k : IntKind} {a b : Int} (h : a = b) : Ending.returned (.int k a) = .returned (.int k b) := by rw [h]
theorem cell_blk {w : World} {b : Nat} {cs : Array Value} {t : TypeId} {fr : Nat × Nat} (h : w.heap[b]? = some (.cells cs t fr)) (i : Nat) {v : Value} (hv : cs[i]? = some v) : w.cell? ⟨b, i, none⟩ = some v := by
  simp [World.cell?, h, hv]
theorem free_blk {w : World} {b : Nat} {cs : Array Value} {t : TypeId} (h : w.heap[b]? = some (.cells cs t (0, 0))) (i : Nat) : w.frozen? ⟨b, i, none⟩ = false := by
  simp [World.frozen?, h]
theorem grown_refl (w : World) (row : Option Nat) : w.grownBy w row := ⟨rfl, rfl, rfl, Nat.le_refl _, fun _ _ _ => rfl⟩
theorem grown_trans {a b c : World} {row : Option Nat} (h : a.grownBy b row) (k : b.grownBy c row) : a.grownBy c row :=
  ⟨k.os.trans h.os, k.tape.trans h.tape, k.output.trans h.output, Nat.le_trans h.size k.size, fun i hi hne => (k.block i (Nat.lt_of_lt_of_le hi h.size) hne).trans (h.block i hi hne)⟩
theorem grown_any {a b : World} {row : Option Nat} (h : a.grownBy b none) : a.grownBy b row :=
  ⟨h.os, h.tape, h.output, h.size, fun i hi _ => h.block i hi (by simp)⟩
theorem grown_drewN {a b : World} {row : Option Nat} (h : a.grownBy b row) (n : Nat) : a.grownBy (b.drewN n) row := ⟨h.os, h.tape, h.output, h.size, h.block⟩
theorem grown_of_drewN {a b : World} {row : Option Nat} {n : Nat} (h : (a.drewN n).grownBy b row) : a.grownBy b row := ⟨h.os, h.tape, h.output, h.size, h.block⟩
theorem grown_alloc {a b : World} {row : Option Nat} (h : a.grownBy b row) (o : Obj) : a.grownBy (b.alloc o) row := grown_trans h (World.grownBy_alloc b o row)
/-- A block from w's end on is nobody's: what is written there is not seen from w. -/
theorem grown_forget {a b c : World} {g : Nat} (h : a.grownBy b none) (hg : a.heap.size ≤ g) (k : b.grownBy c (some g)) : a.grownBy c none :=
  ⟨k.os.trans h.os, k.tape.trans h.tape, k.output.trans h.output, Nat.le_trans h.size k.size, fun i hi _ => (k.block i (Nat.lt_of_lt_of_le hi h.size) (by simp; omega)).trans (h.block i hi (by simp))⟩
theorem grown_set {w w' : World} {row : Option Nat} (h : w.grownBy w' row) {p : Addr} (hp : w.heap.size ≤ p.block ∨ some p.block = row) (u : Value) : w.grownBy (w'.setCell p u) row :=
  ⟨h.os, h.tape, h.output, by simpa [World.setCell] using h.size, fun k hk hne => by
    rw [Below.heap_setCell _ _ _ _ (by rcases hp with hp | hp; (· omega); (· intro e; exact hne (by rw [e, hp])))]; exact h.block k hk hne⟩
theorem grown_setCells {w : World} {row : Option Nat} (b : Nat) (hb : w.heap.size ≤ b ∨ some b = row) (vs : List Value) : ∀ (o : Nat) (w' : World), w.grownBy w' row → w.grownBy (w'.setCells b o vs) row := by
  induction vs with
  | nil => intro o w' h; exact h
  | cons v r ih => intro o w' h; exact ih (o + 1) _ (grown_set h hb v)
theorem grown_setRow {w w' : World} {row : Option Nat} (h : w.grownBy w' row) {g : Nat} (hg : w.heap.size ≤ g) (cs : Array Value) : w.grownBy (w'.setRow g cs) row :=
  ⟨h.os, h.tape, h.output, by simpa using h.size, fun k hk hne => by rw [setRow_other _ _ _ _ (by omega)]; exact h.block k hk hne⟩
theorem setCell_heap {w : World} {b i : Nat} {cs : Array Value} {t : TypeId} {fr : Nat × Nat} (h : w.heap[b]? = some (.cells cs t fr)) (v : Value) :
    (w.setCell ⟨b, i, none⟩ v).heap[b]? = some (.cells (cs.setIfInBounds i v) t fr) := by
  simp [World.setCell, Array.getElem?_modify, h]
theorem setCell_size (w : World) (p : Addr) (v : Value) : (w.setCell p v).heap.size = w.heap.size := by simp [World.setCell]
theorem setCells_size (b : Nat) (vs : List Value) : ∀ (o : Nat) (w : World), (w.setCells b o vs).heap.size = w.heap.size := by
  induction vs with
  | nil => intro o w; rfl
  | cons v r ih => intro o w; rw [World.setCells, ih, setCell_size]
theorem setCells_heap {b : Nat} {t : TypeId} {fr : Nat × Nat} (cs : List Value) : ∀ (pre mid post : List Value) (w : World), w.heap[b]? = some (.cells (pre ++ mid ++ post).toArray t fr) → mid.length = cs.length →
    (w.setCells b pre.length cs).heap[b]? = some (.cells (pre ++ cs ++ post).toArray t fr) := by
  induction cs with
  | nil => intro pre mid post w h hl; obtain rfl : mid = [] := List.eq_nil_of_length_eq_zero (by simpa using hl); exact h
  | cons v r ih =>
    intro pre mid post w h hl
    match mid, hl with
    | m :: mid', hl =>
      have h1 := setCell_heap (i := pre.length) h v
      have e : (pre ++ (m :: mid') ++ post).toArray.setIfInBounds pre.length v = ((pre ++ [v]) ++ mid' ++ post).toArray := by
        simp
      rw [e] at h1
      have := ih (pre ++ [v]) mid' post _ h1 (by simpa using hl)
      simp only [List.length_append, List.length_singleton] at this
      rw [World.setCells, this]
      simp
theorem setCells_other {b k : Nat} (h : k ≠ b) (vs : List Value) : ∀ (o : Nat) (w : World), (w.setCells b o vs).heap[k]? = w.heap[k]? := by
  induction vs with
  | nil => intro o w; rfl
  | cons v r ih => intro o w; rw [World.setCells, ih, Below.heap_setCell _ _ _ _ h]
/-- A piece of a block. -/
theorem range_blk {w : World} {b : Nat} {pre cs post : List Value} {t : TypeId} {fr : Nat × Nat} (h : w.heap[b]? = some (.cells (pre ++ cs ++ post).toArray t fr)) : w.rangeAt b pre.length cs := fun j v hj =>
  cell_blk h _ (by
    have hl : j < cs.length := (List.getElem?_eq_some_iff.1 hj).1
    simp only [List.getElem?_toArray]
    rw [List.append_assoc, List.getElem?_append_right (by omega), List.getElem?_append_left (by omega)]
    simpa using hj)
theorem range_all {w : World} {b : Nat} {V : Array Value} {t : TypeId} {fr : Nat × Nat} (h : w.heap[b]? = some (.cells V t fr)) : w.rangeAt b 0 V.toList := fun j v hj =>
  cell_blk h _ (by simpa using hj)
theorem there_blk {w : World} {b : Nat} {cs : Array Value} {t : TypeId} (h : w.heap[b]? = some (.cells cs t (0, 0))) (o n : Nat) (hn : o + n ≤ cs.size) : w.there b o n := fun j hj =>
  ⟨by simp [World.cell?, h, show o + j < cs.size by omega], free_blk h _⟩
theorem range_grown {w w' : World} {row : Option Nat} (h : w.grownBy w' row) {b o : Nat} {cs : List Value} (hr : w.rangeAt b o cs) (hb : b < w.heap.size) (hne : some b ≠ row) : w'.rangeAt b o cs := fun j v hj => by
  rw [World.cell?_of_block (h.block b hb hne)]; exact hr j v hj
theorem blk_lt {w : World} {b : Nat} {o : Obj} (h : w.heap[b]? = some o) : b < w.heap.size := (Array.getElem?_eq_some_iff.1 h).1
theorem alloc_at (w : World) (o : Obj) : (w.alloc o).heap[w.heap.size]? = some o := by
  show (w.heap.push o)[w.heap.size]? = some o
  simp
theorem alloc_old (w : World) (o : Obj) (k : Nat) (h : k < w.heap.size) : (w.alloc o).heap[k]? = w.heap[k]? := Below.heap_alloc w o k h
theorem alloc_size (w : World) (o : Obj) : (w.alloc o).heap.size = w.heap.size + 1 := by
  show (w.heap.push o).size = _
  simp
theorem alloc2_size (w : World) (o o' : Obj) : ((w.alloc o).alloc o').heap.size = w.heap.size + 2 := by
  rw [alloc_size, alloc_size]
theorem alloc2_new (w : World) (o o' : Obj) : ((w.alloc o).alloc o').heap[w.heap.size + 1]? = some o' := by
  have := alloc_at (w.alloc o) o'
  rwa [alloc_size] at this
theorem alloc2_old (w : World) (o o' : Obj) : ((w.alloc o).alloc o').heap[w.heap.size]? = some o := by
  rw [alloc_old _ _ _ (by rw [alloc_size]; omega)]; exact alloc_at w o
theorem alloc_keep {w : World} {o p : Obj} {g : Nat} (h : w.heap[g]? = some p) : (w.alloc o).heap[g]? = some p := by
  show (w.heap.push o)[g]? = _
  rw [Array.getElem?_push_lt (blk_lt h), ← h, Array.getElem?_eq_getElem (blk_lt h)]
end Go.Proofs.YtgdnndapmcjoeaaDoor
