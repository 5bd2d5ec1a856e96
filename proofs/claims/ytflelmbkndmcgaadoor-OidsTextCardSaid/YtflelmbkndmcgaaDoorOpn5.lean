/- Ints that came in: what they are, and whole. -/
import Derived.Test.YtflelmbkndmcgaaDoorOpn
import Derived.Test.YtflelmbkndmcgaaDoorIn1
namespace Go.Proofs.YtflelmbkndmcgaaDoor
open Go.ChangeShapes Go.WideShapes Go.ChangeAt Go.RowKit

theorem cInt0 : Tryd.prog.cellsOf 3 = 1 := by kernel_rfl
theorem ints_in0 {H : Type} {enc : TypeId × Value → H} {W : World} {base : Nat} {sp : Nat → Bool} {held : Bool} {v : Value} {d : DataW H} {p : List MemPlace} (h : DataW.Trod enc Tryd.prog W base sp held 23 v d p)
    (hok : ∃ a l c, v = .slice a l c) : ∃ l, Ints W v l ∧ Whole0 v ∧ l.length ≤ maxLen ∧ ∀ z ∈ l, -9223372036854775808 ≤ z ∧ z ≤ 9223372036854775807 := by
  obtain ⟨a0, len, cap, rfl⟩ := hok
  obtain ⟨fuel, hf⟩ := h
  rcases open_ints Tryd.underlying23 Tryd.underlying3 cInt0 hf with ⟨hcs, hx⟩ | ⟨a, len', cap', zs, hcs, _, hl, hm, hz, hx, hcell, hwz⟩
  · simp [Value.cells] at hcs
    obtain ⟨rfl, rfl, rfl⟩ := hcs
    exact ⟨[], ⟨none, 0, 0, 0, rfl, Nat.le_refl _, fun h => absurd h (Nat.lt_irrefl _), fun j hj => absurd hj (Nat.not_lt_zero _)⟩, fun n c e => by cases e; exact ⟨rfl, rfl⟩, by unfold maxLen; simp, by simp⟩
  · simp [Value.cells] at hcs
    obtain ⟨rfl, rfl, rfl⟩ := hcs
    have hzl : len ≤ zs.length := by rw [hz]; split <;> omega
    have hzl2 : zs.length ≤ maxLen := by rw [hz]; split <;> omega
    have hll : (zs.take len).length = len := by rw [List.length_take]; omega
    refine ⟨zs.take len, ?_, Whole0.some _ _ _, by rw [hll]; omega, fun z hz2 => ?_⟩
    · rcases Nat.eq_zero_or_pos len with h0 | h0
      · subst h0
        exact ⟨some a, 0, 0, cap, by rw [hll], by rw [hll]; exact hl, fun h => by rw [hll] at h; omega, fun j hj => by rw [hll] at hj; omega⟩
      · obtain ⟨b, off, rfl, hc⟩ := ints_at hcell (by omega)
        refine ⟨_, b, off, cap, by rw [hll], by rw [hll]; exact hl, fun _ => ⟨rfl, cell_lt (hc 0 (by omega))⟩, fun j hj => ?_⟩
        rw [hll] at hj
        rw [hc j (by omega)]
        simp [List.getD_eq_getElem?_getD, hj]
    · have := hwz z (List.mem_of_mem_take hz2)
      have := bounds_i64 this
      omega
end Go.Proofs.YtflelmbkndmcgaaDoor
