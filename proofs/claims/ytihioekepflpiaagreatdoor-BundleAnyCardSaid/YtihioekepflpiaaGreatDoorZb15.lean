import Derived.Test.YtihioekepflpiaaGreatDoorZb01
import Derived.Test.YtihioekepflpiaaGreatDoorZb02
import Derived.Test.YtihioekepflpiaaGreatDoorChecked
import Derived.KernelRfl
import Derived.Laws.Slices
import Derived.WalkKit
import Derived.BigQuiet
import Derived.Lib.Hide
set_option linter.unusedVariables false
set_option linter.unusedSimpArgs false
namespace Go.Proofs.YtihioekepflpiaaGreatDoor
open Go.RowKit
section
variable {P : Program}
theorem Whole0.len {a : Option Addr} {n c : Nat} (h : Whole0 (.slice a n c)) : a = none → n = 0 ∧ c = 0 := fun e => by subst e; exact h _ _ rfl
theorem Bytes.cap {w : World} {a : Option Addr} {n c : Nat} {l : List Nat} (h : Bytes w (.slice a n c) l) : n = l.length ∧ n ≤ c := by
  obtain ⟨_, _, _, _, _, he, hc, _⟩ := h
  cases he
  exact ⟨rfl, hc⟩
/-- Where a piece begins. -/
def subA (a : Option Addr) (k c : Nat) : Option Addr := if c = k then a else a.map (·.add k)
end
theorem elemU8 : Tryz.prog.underlying 58 = some (.slice (Tryz.prog.elem 58)) := by kernel_rfl
theorem sizeU8 (w : World) : (sizeOf (Tryz.prog.elem 58)).run Tryz.prog w = .ok 1 w := by kernel_rfl
/-- The walk's own words for pieces of bytes: the 'if' at the end of the room behind one name. -/
@[go_sem high] theorem run_from8 (w : World) (a : Option Addr) (n c : Nat) (i : Int) (h0 : 0 ≤ i) (h1 : i ≤ n) :
    (Instr.slice 58 (.slice a n c) (some (.int .i64 i)) none none).run Tryz.prog w = .ok (.slice (subA a i.toNat c) (n - i.toNat) (c - i.toNat)) w := by
  rw [run_slice_l w 58 a n c elemU8 .i64 i h0 h1, sizeU8]
  simp only [Result.andThen, sliced, Nat.mul_one, subA]
@[go_sem high] theorem run_from8_1 (w : World) (a : Option Addr) (n c : Nat) :
    (Instr.slice 58 (.slice a (n + 1) c) (some (.int .i64 1)) none none).run Tryz.prog w = .ok (.slice (subA a 1 c) n (c - 1)) w := by
  rw [run_from8 w a (n + 1) c 1 (by decide) (by omega)]
  rfl
@[go_sem high] theorem run_to8 (w : World) (a : Option Addr) (n c : Nat) (i : Int) (h0 : 0 ≤ i) (h1 : i ≤ c) :
    (Instr.slice 58 (.slice a n c) none (some (.int .i64 i)) none).run Tryz.prog w = .ok (.slice a i.toNat c) w := by
  have hadd : ∀ x : Addr, x.add 0 = x := fun x => by unfold Addr.add; split <;> simp_all
  rw [run_slice_h w 58 a n c elemU8 .i64 i h0 h1, sizeU8]
  simp only [Result.andThen, sliced, Nat.mul_one, Nat.sub_zero]
  congr 2
  split
  · rfl
  · cases a
    · rfl
    · simp [hadd]
end Go.Proofs.YtihioekepflpiaaGreatDoor
namespace Go.Proofs.YtihioekepflpiaaGreatDoor
open Go.RowKit
/-- The slice v has just the ints l. -/
def Ints (w : World) (v : Value) (l : List Int) : Prop :=
  ∃ (a : Option Addr) (sb so c : Nat), v = .slice a l.length c ∧ l.length ≤ c ∧ (0 < l.length → a = some ⟨sb, so, none⟩ ∧ sb < w.heap.size) ∧ ∀ j, j < l.length → w.cell? ⟨sb, so + j, none⟩ = some (.int .i64 (l.getD j 0))
def cellsI (l : List Int) : List Value := l.map fun z => Value.int .i64 z
theorem cellsI_len (l : List Int) : (cellsI l).length = l.length := by simp [cellsI]
theorem cellsI_at (l : List Int) (j : Nat) (h : j < l.length) : (cellsI l)[j]? = some (.int .i64 (l.getD j 0)) := by simp [cellsI, h]
theorem Ints.grown {w w' : World} {v : Value} {l : List Int} (h : Ints w v l) (hg : w.grownBy w' none) : Ints w' v l := by
  obtain ⟨a, sb, so, c, h1, h2, h3, h4⟩ := h
  refine ⟨a, sb, so, c, h1, h2, fun hp => ⟨(h3 hp).1, Nat.lt_of_lt_of_le (h3 hp).2 hg.size⟩, fun j hj => ?_⟩
  rw [World.cell?_of_block (hg.block sb (h3 (by omega)).2 (by simp))]
  exact h4 j hj
theorem Ints.own {w : World} {base : Nat} {e : TypeId} {v : Value} {n : Nat} {l : List Int} (h : w.ownsRow base e 1 v n (cellsI l)) : Ints w v l := by
  have hn := h.1
  rw [cellsI_len, Nat.mul_one] at hn
  subst hn
  obtain ⟨a, g, c, rfl, h1, h2, h3, h4⟩ := ownsRow_form h
  refine ⟨a, g, 0, c, rfl, h1, fun hp => ⟨(h3 hp).1, (h3 hp).2.2⟩, fun j hj => ?_⟩
  rw [Nat.zero_add, h4 j hj, cellsI_at l j hj]
/-- From w on by growth; v is the call's own and holds l. -/
structure FrI (w w' : World) (v : Value) (l : List Int) : Prop where
  grown : w.grownBy w' none
  own : w'.ownsRow w.heap.size 3 1 v l.length (cellsI l)
theorem FrI.step {w b c : World} {v v' : Value} {l l' : List Int} {n' : Nat} {xs : List Value} (h : FrI w b v l) (ho : c.ownsRow w.heap.size 3 1 v' n' xs) (hg : b.grownBy c v.ownBlock) (e : xs = cellsI l') : FrI w c v' l' := by
  subst e
  have hn : n' = l'.length := by have := ho.1; rw [cellsI_len] at this; omega
  subst hn
  exact ⟨grown_own h.grown h.own (Nat.le_refl _) hg, ho⟩
theorem FrI.le {w w' : World} {v : Value} {l : List Int} (h : FrI w w' v l) : w.heap.size ≤ w'.heap.size := h.grown.size
section
variable {P : Program}
end
theorem Ints.lit {w : World} {g : Nat} {t : TypeId} {fr : Nat × Nat} {l : List Int} (h : w.heap[g]? = some (.cells (cellsI l).toArray t fr)) : Ints w (.slice (some ⟨g, 0, none⟩) l.length l.length) l :=
  ⟨_, g, 0, _, rfl, Nat.le_refl _, fun _ => ⟨rfl, blk_lt h⟩, fun j hj => by rw [Nat.zero_add]; exact cell_blk h j (by simpa using cellsI_at l j hj)⟩
theorem elemInt : Tryz.prog.underlying 55 = some (.slice (Tryz.prog.elem 55)) := by kernel_rfl
theorem sizeIntE (w : World) : (sizeOf (Tryz.prog.elem 55)).run Tryz.prog w = .ok 1 w := by kernel_rfl
/-- The walk's own words for pieces of ints. -/
@[go_sem high] theorem run_fromI (w : World) (a : Option Addr) (n c : Nat) (i : Int) (h0 : 0 ≤ i) (h1 : i ≤ n) :
    (Instr.slice 55 (.slice a n c) (some (.int .i64 i)) none none).run Tryz.prog w = .ok (.slice (subA a i.toNat c) (n - i.toNat) (c - i.toNat)) w := by
  rw [run_slice_l w 55 a n c elemInt .i64 i h0 h1, sizeIntE]
  simp only [Result.andThen, sliced, Nat.mul_one, subA]
@[go_sem high] theorem run_fromI_2 (w : World) (a : Option Addr) (n c : Nat) :
    (Instr.slice 55 (.slice a (n + 2) c) (some (.int .i64 2)) none none).run Tryz.prog w = .ok (.slice (subA a 2 c) n (c - 2)) w := by
  rw [run_fromI w a (n + 2) c 2 (by decide) (by omega)]
  rfl
@[go_sem high] theorem run_fromI_1 (w : World) (a : Option Addr) (n c : Nat) :
    (Instr.slice 55 (.slice a (n + 1) c) (some (.int .i64 1)) none none).run Tryz.prog w = .ok (.slice (subA a 1 c) n (c - 1)) w := by
  rw [run_fromI w a (n + 1) c 1 (by decide) (by omega)]
  rfl
@[go_sem high] theorem run_toI (w : World) (a : Option Addr) (n c : Nat) (i : Int) (h0 : 0 ≤ i) (h1 : i ≤ c) :
    (Instr.slice 55 (.slice a n c) none (some (.int .i64 i)) none).run Tryz.prog w = .ok (.slice a i.toNat c) w := by
  have hadd : ∀ x : Addr, x.add 0 = x := fun x => by unfold Addr.add; split <;> simp_all
  rw [run_slice_h w 55 a n c elemInt .i64 i h0 h1, sizeIntE]
  simp only [Result.andThen, sliced, Nat.mul_one, Nat.sub_zero]
  congr 2
  split
  · rfl
  · cases a <;> simp [hadd]
end Go.Proofs.YtihioekepflpiaaGreatDoor
namespace Go.Proofs.YtihioekepflpiaaGreatDoor
open Go.RowKit
def cellsS (ps : List (List Nat)) : List Value := ps.map fun p => Value.string (strOf p)
theorem cellsS_len (l : List (List Nat)) : (cellsS l).length = l.length := by simp [cellsS]
theorem cellsS_at (l : List (List Nat)) (j : Nat) (h : j < l.length) : (cellsS l)[j]? = some (.string (strOf (l.getD j []))) := by simp [cellsS, h]
/-- The slice v has just these texts. -/
def Strs (w : World) (v : Value) (l : List (List Nat)) : Prop :=
  ∃ (a : Option Addr) (sb so c : Nat), v = .slice a l.length c ∧ l.length ≤ c ∧ (0 < l.length → a = some ⟨sb, so, none⟩ ∧ sb < w.heap.size) ∧ ∀ j, j < l.length → w.cell? ⟨sb, so + j, none⟩ = some (.string (strOf (l.getD j [])))
theorem Strs.grown {w w' : World} {v : Value} {l : List (List Nat)} (h : Strs w v l) (hg : w.grownBy w' none) : Strs w' v l := by
  obtain ⟨a, sb, so, c, h1, h2, h3, h4⟩ := h
  refine ⟨a, sb, so, c, h1, h2, fun hp => ⟨(h3 hp).1, Nat.lt_of_lt_of_le (h3 hp).2 hg.size⟩, fun j hj => ?_⟩
  rw [World.cell?_of_block (hg.block sb (h3 (by omega)).2 (by simp))]
  exact h4 j hj
theorem Strs.own {w : World} {base : Nat} {e : TypeId} {v : Value} {n : Nat} {l : List (List Nat)} (h : w.ownsRow base e 1 v n (cellsS l)) : Strs w v l := by
  have hn := h.1
  rw [cellsS_len, Nat.mul_one] at hn
  subst hn
  obtain ⟨a, g, c, rfl, h1, h2, h3, h4⟩ := ownsRow_form h
  refine ⟨a, g, 0, c, rfl, h1, fun hp => ⟨(h3 hp).1, (h3 hp).2.2⟩, fun j hj => ?_⟩
  rw [Nat.zero_add, h4 j hj, cellsS_at l j hj]
/-- From w on by growth; v is the call's own and holds the texts. -/
structure FrS (w w' : World) (v : Value) (l : List (List Nat)) : Prop where
  grown : w.grownBy w' none
  own : w'.ownsRow w.heap.size 9 1 v l.length (cellsS l)
theorem FrS.step {w b c : World} {v v' : Value} {l l' : List (List Nat)} {n' : Nat} {xs : List Value} (h : FrS w b v l) (ho : c.ownsRow w.heap.size 9 1 v' n' xs) (hg : b.grownBy c v.ownBlock) (e : xs = cellsS l') : FrS w c v' l' := by
  subst e
  have hn : n' = l'.length := by have := ho.1; rw [cellsS_len] at this; omega
  subst hn
  exact ⟨grown_own h.grown h.own (Nat.le_refl _) hg, ho⟩
theorem FrS.le {w w' : World} {v : Value} {l : List (List Nat)} (h : FrS w w' v l) : w.heap.size ≤ w'.heap.size := h.grown.size
end Go.Proofs.YtihioekepflpiaaGreatDoor
namespace Go.Proofs.YtihioekepflpiaaGreatDoor
open Go.RowKit
@[go_sem high] theorem run_lh8n (w : World) (a : Option Addr) (n c l h : Nat) (h1 : l ≤ h) (h2 : h ≤ c) :
    (Instr.slice 58 (.slice a n c) (some (.int .i64 (l : Int))) (some (.int .i64 (h : Int))) none).run Tryz.prog w = .ok (.slice (subA a l c) (h - l) (c - l)) w := by
  rw [run_slice_lh w 58 a n c elemU8 .i64 .i64 (l : Int) (h : Int) (by omega) (by omega) (by omega), sizeU8]
  simp only [Result.andThen, sliced, Nat.mul_one, subA, Int.toNat_natCast]
end Go.Proofs.YtihioekepflpiaaGreatDoor
namespace Go.Proofs.YtihioekepflpiaaGreatDoor
open Go.RowKit
def marksI : List Int := [-91, -92, -93, -94]
/-- The ints and the marks behind them, in one block. -/
def RoomI (w : World) (g : Nat) (l : List Int) : Prop := ∀ j, j < l.length + 4 → w.cell? ⟨g, j, none⟩ = some (.int .i64 ((l ++ marksI).getD j 0))
theorem RoomI.grown {w w' : World} {g : Nat} {l : List Int} (h : RoomI w g l) (hb : g < w.heap.size) (hg : w.grownBy w' none) : RoomI w' g l := fun j hj => by
  rw [World.cell?_of_block (hg.block g hb (by simp))]; exact h j hj
end Go.Proofs.YtihioekepflpiaaGreatDoor
namespace Go.Proofs.YtihioekepflpiaaGreatDoor
open Go.RowKit
end Go.Proofs.YtihioekepflpiaaGreatDoor
namespace Go.Proofs.YtihioekepflpiaaGreatDoor
open Go.RowKit
theorem retB2 {a b : Bool} (h : a = b) : Ending.returned (.bool a) = .returned (.bool b) := by rw [h]
theorem retI2 {a b : Int} (h : a = b) : Ending.returned (.int .i64 a) = .returned (.int .i64 b) := by rw [h]
def monthsL : List Int := [31, 28, 31, 30, 31, 30, 31, 31, 30, 31, 30, 31]
theorem months_at {y : Int} (m : Nat) (h1 : m < 12) (h2 : (m : Int) + 1 ≠ 2 ∨ Cal.leapI y = false) : monthsL.getD m 0 = (Cal.daysI y ((m : Int) + 1) : Nat) := by
  match m, h1 with
  | 0, _ => rfl
  | 1, _ =>
    rcases h2 with h | h
    · exact absurd rfl h
    · simp [Cal.daysI, h, monthsL]
  | 2, _ => rfl
  | 3, _ => rfl
  | 4, _ => rfl
  | 5, _ => rfl
  | 6, _ => rfl
  | 7, _ => rfl
  | 8, _ => rfl
  | 9, _ => rfl
  | 10, _ => rfl
  | 11, _ => rfl
end Go.Proofs.YtihioekepflpiaaGreatDoor
