import Derived.Test.YtgdnndapmcjoeaaDoorKe03
import Derived.Test.YtgdnndapmcjoeaaDoorChecked
import Derived.KernelRfl
import Derived.Laws.Slices
namespace Go.Proofs.YtgdnndapmcjoeaaDoor
open Go.RowKit
section
variable {P : Program}
theorem Whole0.len {a : Option Addr} {n c : Nat} (h : Whole0 (.slice a n c)) : a = none → n = 0 ∧ c = 0 := fun e => by subst e; exact h _ _ rfl
theorem Bytes.cap {w : World} {a : Option Addr} {n c : Nat} {l : List Nat} (h : Bytes w (.slice a n c) l) : n = l.length ∧ n ≤ c := by
  obtain ⟨_, _, _, _, _, he, hc, _⟩ := h
  cases he
  exact ⟨rfl, hc⟩
/-- Where a piece begins. -/
def subA (a : Option Addr) (k c : Nat) : Option Addr := if c = k then a else a.map (·.add k)
theorem subA_none {a : Option Addr} {k c : Nat} (h : subA a k c = none) : a = none := by
  unfold subA at h
  split at h
  · exact h
  · cases a
    · rfl
    · cases h
/-- Behind the first k. -/
theorem Bytes.from {w : World} {a : Option Addr} {n c : Nat} {l : List Nat} (hB : Bytes w (.slice a n c) l) (k : Nat) (hk : k ≤ n) : Bytes w (.slice (subA a k c) (n - k) (c - k)) (l.drop k) := by
  obtain ⟨h1, a1, sb, so, c1, he, hc, ha, hcell⟩ := hB
  cases he
  refine ⟨fun x hx => h1 x (List.mem_of_mem_drop hx), subA a k c, sb, so + k, c - k, by rw [List.length_drop], by rw [List.length_drop]; omega, fun hpos => ?_, fun j hj => ?_⟩
  · rw [List.length_drop] at hpos
    obtain ⟨e, hlt⟩ := ha (by omega)
    refine ⟨?_, hlt⟩
    rw [subA, if_neg (by omega), e, Option.map_some, addr_addO]
  · rw [List.length_drop] at hj
    have := hcell (k + j) (by omega)
    rw [← Nat.add_assoc] at this
    rw [this]
    simp [List.getD_eq_getElem?_getD]
theorem Whole0.from {a : Option Addr} {n c : Nat} (h0 : Whole0 (.slice a n c)) (k : Nat) : Whole0 (.slice (subA a k c) (n - k) (c - k)) := fun n' c' e => by
  simp only [Value.slice.injEq] at e
  obtain ⟨e1, e2, e3⟩ := e
  have := h0.len (subA_none e1)
  omega
end
theorem elemU8 : Tryd.prog.underlying 22 = some (.slice (Tryd.prog.elem 22)) := by kernel_rfl
theorem sizeU8 (w : World) : (sizeOf (Tryd.prog.elem 22)).run Tryd.prog w = .ok 1 w := by kernel_rfl
/-- The walk's own words for pieces of bytes: the 'if' at the end of the room behind one name. -/
@[go_sem high] theorem run_from8 (w : World) (a : Option Addr) (n c : Nat) (i : Int) (h0 : 0 ≤ i) (h1 : i ≤ n) :
    (Instr.slice 22 (.slice a n c) (some (.int .i64 i)) none none).run Tryd.prog w = .ok (.slice (subA a i.toNat c) (n - i.toNat) (c - i.toNat)) w := by
  rw [run_slice_l w 22 a n c elemU8 .i64 i h0 h1, sizeU8]
  simp only [Result.andThen, sliced, Nat.mul_one, subA]
@[go_sem high] theorem run_from8_1 (w : World) (a : Option Addr) (n c : Nat) :
    (Instr.slice 22 (.slice a (n + 1) c) (some (.int .i64 1)) none none).run Tryd.prog w = .ok (.slice (subA a 1 c) n (c - 1)) w := by
  rw [run_from8 w a (n + 1) c 1 (by decide) (by omega)]
  rfl
@[go_sem high] theorem run_to8 (w : World) (a : Option Addr) (n c : Nat) (i : Int) (h0 : 0 ≤ i) (h1 : i ≤ c) :
    (Instr.slice 22 (.slice a n c) none (some (.int .i64 i)) none).run Tryd.prog w = .ok (.slice a i.toNat c) w := by
  have hadd : ∀ x : Addr, x.add 0 = x := fun x => by unfold Addr.add; split <;> simp_all
  rw [run_slice_h w 22 a n c elemU8 .i64 i h0 h1, sizeU8]
  simp only [Result.andThen, sliced, Nat.mul_one, Nat.sub_zero]
  congr 2
  split
  · rfl
  · cases a
    · rfl
    · simp [hadd]
end Go.Proofs.YtgdnndapmcjoeaaDoor
namespace Go.Proofs.YtgdnndapmcjoeaaDoor
open Go.RowKit
set_option linter.unusedVariables false
/-- The slice v has just the ints l. -/
def Ints (w : World) (v : Value) (l : List Int) : Prop :=
  ∃ (a : Option Addr) (sb so c : Nat), v = .slice a l.length c ∧ l.length ≤ c ∧ (0 < l.length → a = some ⟨sb, so, none⟩ ∧ sb < w.heap.size) ∧ ∀ j, j < l.length → w.cell? ⟨sb, so + j, none⟩ = some (.int .i64 (l.getD j 0))
def cellsI (l : List Int) : List Value := l.map fun z => Value.int .i64 z
theorem cellsI_len (l : List Int) : (cellsI l).length = l.length := by simp [cellsI]
theorem cellsI_at (l : List Int) (j : Nat) (h : j < l.length) : (cellsI l)[j]? = some (.int .i64 (l.getD j 0)) := by simp [cellsI, h]
theorem Ints.grown {w w' : World} {v : Value} {l : List Int} (h : Ints w v l) (hg : w.grownBy w' none) : Ints w' v l := by
  obtain ⟨a, sb, so, c, h1, h2, h3, h4⟩ := h
  refine ⟨a, sb, so, c, h1, h2, fun hp => ⟨(h3 hp).1, Nat.lt_of_lt_of_le (h3 hp).2 hg.size⟩, fun j hj => ?_⟩
  rw [World.cell?_of_block (hg.block sb (h3 (by omega)).2 (by simp))]
  exact h4 j hj
theorem Ints.nil (w : World) : Ints w (.slice none 0 0) [] := ⟨none, 0, 0, 0, rfl, Nat.le_refl _, fun h => absurd h (Nat.lt_irrefl _), fun j hj => absurd hj (Nat.not_lt_zero _)⟩
theorem Ints.own {w : World} {base : Nat} {e : TypeId} {v : Value} {n : Nat} {l : List Int} (h : w.ownsRow base e 1 v n (cellsI l)) : Ints w v l := by
  have hn := h.1
  rw [cellsI_len, Nat.mul_one] at hn
  subst hn
  obtain ⟨a, g, c, rfl, h1, h2, h3, h4⟩ := ownsRow_form h
  refine ⟨a, g, 0, c, rfl, h1, fun hp => ⟨(h3 hp).1, (h3 hp).2.2⟩, fun j hj => ?_⟩
  rw [Nat.zero_add, h4 j hj, cellsI_at l j hj]
theorem Ints.cap {w : World} {a : Option Addr} {n c : Nat} {l : List Int} (h : Ints w (.slice a n c) l) : n = l.length ∧ n ≤ c := by
  obtain ⟨_, _, _, _, he, hc, _⟩ := h
  cases he
  exact ⟨rfl, hc⟩
/-- Behind the first k. -/
theorem Ints.from {w : World} {a : Option Addr} {n c : Nat} {l : List Int} (hB : Ints w (.slice a n c) l) (k : Nat) (hk : k ≤ n) : Ints w (.slice (subA a k c) (n - k) (c - k)) (l.drop k) := by
  obtain ⟨a1, sb, so, c1, he, hc, ha, hcell⟩ := hB
  cases he
  refine ⟨subA a k c, sb, so + k, c - k, by rw [List.length_drop], by rw [List.length_drop]; omega, fun hpos => ?_, fun j hj => ?_⟩
  · rw [List.length_drop] at hpos
    obtain ⟨e, hlt⟩ := ha (by omega)
    refine ⟨?_, hlt⟩
    rw [subA, if_neg (by omega), e, Option.map_some, addr_addO]
  · rw [List.length_drop] at hj
    have := hcell (k + j) (by omega)
    rw [← Nat.add_assoc] at this
    rw [this]
    simp [List.getD_eq_getElem?_getD]
/-- From w on by growth; v is the call's own and holds l. -/
structure FrI (w w' : World) (v : Value) (l : List Int) : Prop where
  grown : w.grownBy w' none
  own : w'.ownsRow w.heap.size 3 1 v l.length (cellsI l)
theorem FrI.alloc {w w' : World} {v : Value} {l : List Int} (h : FrI w w' v l) (o : Obj) : FrI w (w'.alloc o) v l := ⟨grown_alloc h.grown o, h.own.alloc o⟩
theorem FrI.step {w b c : World} {v v' : Value} {l l' : List Int} {n' : Nat} {xs : List Value} (h : FrI w b v l) (ho : c.ownsRow w.heap.size 3 1 v' n' xs) (hg : b.grownBy c v.ownBlock) (e : xs = cellsI l') : FrI w c v' l' := by
  subst e
  have hn : n' = l'.length := by have := ho.1; rw [cellsI_len] at this; omega
  subst hn
  exact ⟨grown_own h.grown h.own (Nat.le_refl _) hg, ho⟩
theorem FrI.le {w w' : World} {v : Value} {l : List Int} (h : FrI w w' v l) : w.heap.size ≤ w'.heap.size := h.grown.size
theorem FrI.more {w b c : World} {v : Value} {l : List Int} (h : FrI w b v l) (hg : b.grownBy c none) : FrI w c v l := ⟨grown_trans h.grown hg, h.own.kept hg (Classical.em _)⟩
section
variable {P : Program}
end
theorem Ints.lit {w : World} {g : Nat} {t : TypeId} {fr : Nat × Nat} {l : List Int} (h : w.heap[g]? = some (.cells (cellsI l).toArray t fr)) : Ints w (.slice (some ⟨g, 0, none⟩) l.length l.length) l :=
  ⟨_, g, 0, _, rfl, Nat.le_refl _, fun _ => ⟨rfl, blk_lt h⟩, fun j hj => by rw [Nat.zero_add]; exact cell_blk h j (by simpa using cellsI_at l j hj)⟩
theorem elemInt : Tryd.prog.underlying 131 = some (.slice (Tryd.prog.elem 131)) := by kernel_rfl
theorem sizeIntE (w : World) : (sizeOf (Tryd.prog.elem 131)).run Tryd.prog w = .ok 1 w := by kernel_rfl
/-- The walk's own words for pieces of ints. -/
@[go_sem high] theorem run_fromI (w : World) (a : Option Addr) (n c : Nat) (i : Int) (h0 : 0 ≤ i) (h1 : i ≤ n) :
    (Instr.slice 131 (.slice a n c) (some (.int .i64 i)) none none).run Tryd.prog w = .ok (.slice (subA a i.toNat c) (n - i.toNat) (c - i.toNat)) w := by
  rw [run_slice_l w 131 a n c elemInt .i64 i h0 h1, sizeIntE]
  simp only [Result.andThen, sliced, Nat.mul_one, subA]
@[go_sem high] theorem run_fromI_2 (w : World) (a : Option Addr) (n c : Nat) :
    (Instr.slice 131 (.slice a (n + 2) c) (some (.int .i64 2)) none none).run Tryd.prog w = .ok (.slice (subA a 2 c) n (c - 2)) w := by
  rw [run_fromI w a (n + 2) c 2 (by decide) (by omega)]
  rfl
@[go_sem high] theorem run_fromI_1 (w : World) (a : Option Addr) (n c : Nat) :
    (Instr.slice 131 (.slice a (n + 1) c) (some (.int .i64 1)) none none).run Tryd.prog w = .ok (.slice (subA a 1 c) n (c - 1)) w := by
  rw [run_fromI w a (n + 1) c 1 (by decide) (by omega)]
  rfl
@[go_sem high] theorem run_toI (w : World) (a : Option Addr) (n c : Nat) (i : Int) (h0 : 0 ≤ i) (h1 : i ≤ c) :
    (Instr.slice 131 (.slice a n c) none (some (.int .i64 i)) none).run Tryd.prog w = .ok (.slice a i.toNat c) w := by
  have hadd : ∀ x : Addr, x.add 0 = x := fun x => by unfold Addr.add; split <;> simp_all
  rw [run_slice_h w 131 a n c elemInt .i64 i h0 h1, sizeIntE]
  simp only [Result.andThen, sliced, Nat.mul_one, Nat.sub_zero]
  congr 2
  split
  · rfl
  · cases a <;> simp [hadd]
end Go.Proofs.YtgdnndapmcjoeaaDoor
