/- Slices of texts; pieces of a text. -/
import Derived.Test.YtpjhkmdlegjdaaaDoorSub
namespace Go.Proofs.YtpjhkmdlegjdaaaDoor
open Go.RowKit

def seg (l : List Nat) (i j : Nat) : List Nat := (l.drop i).take (j - i)
theorem extract_seg (s : ByteArray) (i j : Nat) : s.extract i j = strOf (seg (strL s) i j) := by
  apply strL_inj
  have hl : ∀ x ∈ seg (strL s) i j, x < 256 := fun x hx => strL_lt s x (List.mem_of_mem_drop (List.mem_of_mem_take hx))
  rw [strL_strOf hl]
  unfold strL seg
  rw [ByteArray.data_extract, Array.toList_extract, List.extract_eq_take_drop, List.map_take, List.map_drop]
theorem seg_self (l : List Nat) (i : Nat) : seg l i i = [] := by simp [seg]
theorem seg_snoc (l : List Nat) (i k : Nat) (h : i ≤ k) (hk : k < l.length) : seg l i (k + 1) = seg l i k ++ [l.getD k 0] := by
  unfold seg
  rw [show k + 1 - i = (k - i) + 1 by omega, List.take_add_one, List.getElem?_drop, show i + (k - i) = k by omega, List.getElem?_eq_getElem hk]
  simp [List.getD_eq_getElem?_getD, hk]
theorem seg_end (l : List Nat) (i : Nat) : seg l i l.length = l.drop i := by
  unfold seg
  exact List.take_of_length_le (by rw [List.length_drop]; omega)

def cellsS (ps : List (List Nat)) : List Value := ps.map fun p => Value.string (strOf p)
theorem cellsS_len (l : List (List Nat)) : (cellsS l).length = l.length := by simp [cellsS]
theorem cellsS_append (a b : List (List Nat)) : cellsS (a ++ b) = cellsS a ++ cellsS b := by simp [cellsS]
theorem cellsS_at (l : List (List Nat)) (j : Nat) (h : j < l.length) : (cellsS l)[j]? = some (.string (strOf (l.getD j []))) := by simp [cellsS, h]
/-- The slice v has just these texts. -/
def Strs (w : World) (v : Value) (l : List (List Nat)) : Prop :=
  ∃ (a : Option Addr) (sb so c : Nat), v = .slice a l.length c ∧ l.length ≤ c ∧ (0 < l.length → a = some ⟨sb, so, none⟩ ∧ sb < w.heap.size) ∧ ∀ j, j < l.length → w.cell? ⟨sb, so + j, none⟩ = some (.string (strOf (l.getD j [])))
theorem Strs.grown {w w' : World} {v : Value} {l : List (List Nat)} (h : Strs w v l) (hg : w.grownBy w' none) : Strs w' v l := by
  obtain ⟨a, sb, so, c, h1, h2, h3, h4⟩ := h
  refine ⟨a, sb, so, c, h1, h2, fun hp => ⟨(h3 hp).1, Nat.lt_of_lt_of_le (h3 hp).2 hg.size⟩, fun j hj => ?_⟩
  rw [World.cell?_of_block (hg.block sb (h3 (by omega)).2 (by simp))]
  exact h4 j hj
theorem Strs.own {w : World} {base : Nat} {e : TypeId} {v : Value} {n : Nat} {l : List (List Nat)} (h : w.ownsRow base e 1 v n (cellsS l)) : Strs w v l := by
  have hn := h.1
  rw [cellsS_len, Nat.mul_one] at hn
  subst hn
  obtain ⟨a, g, c, rfl, h1, h2, h3, h4⟩ := ownsRow_form h
  refine ⟨a, g, 0, c, rfl, h1, fun hp => ⟨(h3 hp).1, (h3 hp).2.2⟩, fun j hj => ?_⟩
  rw [Nat.zero_add, h4 j hj, cellsS_at l j hj]
/-- From w on by growth; v is the call's own and holds the texts. -/
structure FrS (w w' : World) (v : Value) (l : List (List Nat)) : Prop where
  grown : w.grownBy w' none
  own : w'.ownsRow w.heap.size 9 1 v l.length (cellsS l)
theorem FrS.alloc {w w' : World} {v : Value} {l : List (List Nat)} (h : FrS w w' v l) (o : Obj) : FrS w (w'.alloc o) v l := ⟨grown_alloc h.grown o, h.own.alloc o⟩
theorem FrS.step {w b c : World} {v v' : Value} {l l' : List (List Nat)} {n' : Nat} {xs : List Value} (h : FrS w b v l) (ho : c.ownsRow w.heap.size 9 1 v' n' xs) (hg : b.grownBy c v.ownBlock) (e : xs = cellsS l') : FrS w c v' l' := by
  subst e
  have hn : n' = l'.length := by have := ho.1; rw [cellsS_len] at this; omega
  subst hn
  exact ⟨grown_own h.grown h.own (Nat.le_refl _) hg, ho⟩
theorem FrS.le {w w' : World} {v : Value} {l : List (List Nat)} (h : FrS w w' v l) : w.heap.size ≤ w'.heap.size := h.grown.size
theorem FrS.strs {w w' : World} {v : Value} {l : List (List Nat)} (h : FrS w w' v l) : Strs w' v l := Strs.own h.own
end Go.Proofs.YtpjhkmdlegjdaaaDoor
