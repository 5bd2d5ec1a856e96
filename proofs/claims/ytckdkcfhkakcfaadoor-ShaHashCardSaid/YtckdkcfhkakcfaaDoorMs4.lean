/- Framed texts: what they are; parts in a slice; a row of the call's own that grows. -/
import Derived.Test.YtckdkcfhkakcfaaDoorMs3
namespace Go.Proofs.YtckdkcfhkakcfaaDoor
open Go.RowKit

/-- Slices of bytes in a slice: each part's value. -/
def PartsW (w : World) (sb so : Nat) (parts : List (List Nat)) : Prop :=
  ∀ i, i < parts.length → ∃ v, w.cell? ⟨sb, so + i, none⟩ = some v ∧ Bytes w v (parts.getD i []) ∧ Whole0 v

def fhead (W : List Nat) (n : Nat) : List Nat := W.length :: (W ++ [n])
def fbody : List (List Nat) → List Nat
  | [] => []
  | p :: r => be4 p.length ++ p ++ fbody r
def frameOf (W : List Nat) (parts : List (List Nat)) : List Nat := fhead W parts.length ++ fbody parts
theorem fbody_append (a b : List (List Nat)) : fbody (a ++ b) = fbody a ++ fbody b := by
  induction a with
  | nil => rfl
  | cons p r ih => simp [fbody, ih]
theorem fbody_take (parts : List (List Nat)) (k : Nat) (hk : k < parts.length) : fbody (parts.take (k + 1)) = fbody (parts.take k) ++ (be4 (parts.getD k []).length ++ parts.getD k []) := by
  rw [List.take_add_one, List.getElem?_eq_getElem hk, fbody_append]
  simp [fbody, List.getD_eq_getElem?_getD, List.getElem?_eq_getElem hk]
theorem fbody_len (parts : List (List Nat)) (h : ∀ p ∈ parts, p.length ≤ 65536) : (fbody parts).length ≤ 65540 * parts.length := by
  induction parts with
  | nil => simp [fbody]
  | cons p r ih =>
    have := ih (fun q hq => h q (by simp [hq]))
    have := h p (by simp)
    simp [fbody, be4]
    omega
theorem fbody_take_len (parts : List (List Nat)) (k : Nat) (hk : k ≤ parts.length) (h : ∀ j, j < k → (parts.getD j []).length ≤ 65536) : (fbody (parts.take k)).length ≤ 65540 * k := by
  have := fbody_len (parts.take k) (fun p hp => by
    obtain ⟨j, hj, rfl⟩ := List.mem_iff_getElem.1 hp
    have hj' : j < k := by simp at hj; omega
    have := h j hj'
    rw [List.getD_eq_getElem?_getD, List.getElem?_eq_getElem (by omega)] at this
    simpa using this)
  rwa [List.length_take, Nat.min_eq_left hk] at this

/-- The error's number: 0, or ErrText, or ErrLong. -/
def fErr (W : List Nat) (parts : List (List Nat)) : Nat :=
  if wordB W = false then 8 else if 16 < parts.length then 3 else if ∃ p ∈ parts, 65536 < p.length then 3 else 0

/-- From w on by growth; v is the call's own and holds l. -/
structure FrW (w w' : World) (v : Value) (l : List Nat) : Prop where
  grown : w.grownBy w' none
  own : w'.ownsRow w.heap.size 5 1 v l.length (cellsL l)
theorem FrW.alloc {w w' : World} {v : Value} {l : List Nat} (h : FrW w w' v l) (o : Obj) : FrW w (w'.alloc o) v l := ⟨grown_alloc h.grown o, h.own.alloc o⟩
theorem FrW.step {w b c : World} {v v' : Value} {l l' : List Nat} {n' : Nat} {xs : List Value} (h : FrW w b v l) (ho : c.ownsRow w.heap.size 5 1 v' n' xs) (hg : b.grownBy c v.ownBlock) (e : xs = cellsL l') : FrW w c v' l' := by
  subst e
  have hn : n' = l'.length := by have := ho.1; rw [cellsL_len] at this; omega
  subst hn
  exact ⟨grown_own h.grown h.own (Nat.le_refl _) hg, ho⟩
theorem FrW.le {w w' : World} {v : Value} {l : List Nat} (h : FrW w w' v l) : w.heap.size ≤ w'.heap.size := h.grown.size
theorem PartsW.grown {w w' : World} {sb so : Nat} {parts : List (List Nat)} (h : PartsW w sb so parts) (hb : 0 < parts.length → sb < w.heap.size) (hg : w.grownBy w' none) : PartsW w' sb so parts := fun i hi => by
  obtain ⟨v, h1, h2, h3⟩ := h i hi
  exact ⟨v, by rw [World.cell?_of_block (hg.block sb (hb (by omega)) (by simp))]; exact h1, h2.grown hg, h3⟩
theorem fhead_lt (W : List Nat) (n : Nat) (hW : ∀ x ∈ W, x < 256) (h : W.length < 256) (hn : n < 256) : ∀ x ∈ fhead W n, x < 256 := by
  intro x hx
  simp only [fhead, List.mem_cons, List.mem_append, List.not_mem_nil, or_false] at hx
  rcases hx with rfl | hx | rfl
  · exact h
  · exact hW x hx
  · exact hn
theorem fbody_lt (parts : List (List Nat)) (h : ∀ p ∈ parts, ∀ x ∈ p, x < 256) : ∀ x ∈ fbody parts, x < 256 := by
  induction parts with
  | nil => intro x hx; simp [fbody] at hx
  | cons p r ih =>
    intro x hx
    simp only [fbody, List.mem_append] at hx
    rcases hx with (hx | hx) | hx
    · exact be4_lt _ x hx
    · exact h p (by simp) x hx
    · exact ih (fun q hq => h q (by simp [hq])) x hx
end Go.Proofs.YtckdkcfhkakcfaaDoor
