/- Slices of slices of bytes that come in. -/
import Derived.Test.YtbneggdfbkebcaaDoorOpn
import Derived.Test.YtbneggdfbkebcaaDoorVl
namespace Go.Proofs.YtbneggdfbkebcaaDoor
open Go.ChangeShapes Go.WideShapes Go.ChangeAt Go.RowKit

theorem lists_in {H : Type} {enc : TypeId × Value → H} {W : World} {base : Nat} {sp : Nat → Bool} {held : Bool} {fuel : Nat} {cs : List Value} {y : DataW H × List MemPlace} (hf : DataW.trod enc Tryd.prog W base sp held fuel 44 cs = some y) :
    ∃ (a : Option Addr) (n c : Nat) (ys : List Value) (L : List (List Nat)), cs = [.slice a n c] ∧ Vals W (.slice a n c) ys ∧ Each W ys L ∧ Whole0 (.slice a n c) := by
  obtain ⟨a, sb, so, n, c, parts, rfl, hn, ha, hP, hnn⟩ := parts_in hf
  obtain ⟨ys, hE, hcells⟩ := each_of parts W sb so hP
  have hyl : ys.length = n := by rw [hE.len, hn]
  have key : n ≤ c ∧ Whole0 (.slice a n c) := by
    rcases DataW.trod_slice Tryd.underlying44 hf with ⟨h, _⟩ | ⟨a', len, cap, elems, rest, m, _, h, _, _, hl, _, _, _, _, _⟩
    · simp only [List.cons.injEq, Value.slice.injEq, and_true] at h
      obtain ⟨rfl, rfl, rfl⟩ := h
      exact ⟨Nat.le_refl _, fun n c e => by cases e; exact ⟨rfl, rfl⟩⟩
    · simp only [List.cons.injEq, Value.slice.injEq, and_true] at h
      obtain ⟨rfl, rfl, rfl⟩ := h
      exact ⟨hl, Whole0.some _ _ _⟩
  exact ⟨a, n, c, ys, parts, rfl, ⟨a, sb, so, c, by rw [hyl], by rw [hyl]; exact key.1, by rw [hyl]; exact ha, hcells⟩, hE, key.2⟩
end Go.Proofs.YtbneggdfbkebcaaDoor
