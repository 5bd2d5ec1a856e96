/- The steps of the law ShaHash that came in. -/
import Derived.Test.YtckdkcfhkakcfaaDoorOpn
import Derived.Test.YtckdkcfhkakcfaaDoorSv1
namespace Go.Proofs.YtckdkcfhkakcfaaDoor
open Go.ChangeShapes Go.WideShapes Go.ChangeAt Go.RowKit

theorem cStep : Tryd.prog.cellsOf 37 = 2 := by kernel_rfl
theorem cBool : Tryd.prog.cellsOf 4 = 1 := by kernel_rfl

set_option maxRecDepth 20000 in
theorem steps_in {H : Type} {enc : TypeId × Value → H} {W : World} {base : Nat} {sp : Nat → Bool} {held : Bool} {fuel : Nat} {cs : List Value} {y : DataW H × List MemPlace} (hf : DataW.trod enc Tryd.prog W base sp held fuel 33 cs = some y) :
    ∃ (a : Option Addr) (sb so n c : Nat) (steps : List (Bool × List Nat)), cs = [.slice a n c] ∧ steps.length = n ∧ (0 < n → a = some ⟨sb, so, none⟩ ∧ sb < W.heap.size) ∧ StepsAt W sb so steps ∧ n ≤ maxLen := by
  rcases DataW.trod_slice Tryd.underlying33 hf with ⟨rfl, _⟩ | ⟨a, len, cap, elems, rest, m, _, rfl, _, _, hl, hm, hel, hall, _, _⟩
  · exact ⟨none, 0, 0, 0, 0, [], rfl, rfl, fun h => absurd h (Nat.lt_irrefl _), fun i hi => absurd hi (Nat.not_lt_zero _), by unfold maxLen; simp⟩
  · have each : ∀ i, i < len → ∃ f v l, W.cell? (a.add (i * 2)) = some (.bool f) ∧ W.cell? ((a.add (i * 2)).add 1) = some v ∧ Bytes W v l ∧ Whole0 v := fun i hi => by
      have h1 := hall i hi
      rw [List.getElem?_eq_getElem (by omega), cStep, Option.bind_eq_some_iff] at h1
      obtain ⟨cs', hc', hy'⟩ := h1
      obtain ⟨y0, y1, k, _, hlen, g0, g1⟩ := trod_struct2 Tryd.underlying37 hy'
      obtain ⟨_, hlen2, hcs⟩ := World.cells?_some hc'
      match cs', hlen2 with
      | [c0, c1], _ =>
        simp only [cBool, cSl, List.drop_zero, List.drop_succ_cons, List.take_succ_cons, List.take_zero] at g0 g1
        obtain ⟨f, e0, _⟩ := DataW.trod_bool Tryd.underlying4 g0
        obtain ⟨a', l', c', e1⟩ := Joins.slice_form Tryd.underlying25 g1
        obtain rfl := (List.cons.inj e0).1
        obtain rfl := (List.cons.inj e1).1
        obtain ⟨l, hB, hW, _⟩ := bytes_in (v := .slice a' l' c') (d := y1.1) (p := y1.2) ⟨k, by simpa [Value.cells] using g1⟩ ⟨_, _, _, rfl⟩
        have h0 := hcs 0 (by omega)
        have h1 := hcs 1 (by omega)
        have ha0 : (a.add (i * 2)).add 0 = a.add (i * 2) := by unfold Addr.add; split <;> simp_all
        rw [ha0] at h0
        exact ⟨f, _, l, by simpa using h0, by simpa using h1, hB, hW⟩
    rcases Nat.eq_zero_or_pos len with h0 | h0
    · subst h0
      exact ⟨some a, 0, 0, 0, cap, [], rfl, rfl, fun h => absurd h (Nat.lt_irrefl _), fun i hi => absurd hi (Nat.not_lt_zero _), Nat.zero_le _⟩
    · obtain ⟨b, off, spot⟩ := a
      obtain ⟨f0, v0, l0, hc0, _⟩ := each 0 h0
      have hspot : spot = none := by simpa [Addr.add] using World.cell?_spot hc0
      subst hspot
      have hg : ∀ i : Nat, ∃ p : Bool × List Nat, i < len → ∃ v, W.cell? ⟨b, off + i * 2, none⟩ = some (.bool p.1) ∧ W.cell? ⟨b, off + i * 2 + 1, none⟩ = some v ∧ Bytes W v p.2 ∧ Whole0 v := fun i => by
        by_cases hi : i < len
        · obtain ⟨f, v, l, h1, h2, h3, h4⟩ := each i hi
          rw [addr_addO] at h1 h2
          rw [addr_addO] at h2
          exact ⟨(f, l), fun _ => ⟨v, h1, h2, h3, h4⟩⟩
        · exact ⟨(false, []), fun h => absurd h hi⟩
      refine ⟨_, b, off, len, cap, (List.range len).map fun i => Classical.choose (hg i), rfl, by simp, fun _ => ⟨rfl, ?_⟩, fun i hi => ?_, Nat.le_trans hl hm⟩
      · have := cell_lt hc0
        simpa [Addr.add] using this
      · have hi' : i < len := by simpa using hi
        obtain ⟨v, h1, h2, h3, h4⟩ := Classical.choose_spec (hg i) hi'
        refine ⟨v, ?_, h2, ?_, h4⟩
        · simpa [List.getD_eq_getElem?_getD, hi'] using h1
        · simpa [List.getD_eq_getElem?_getD, hi'] using h3
end Go.Proofs.YtckdkcfhkakcfaaDoor
