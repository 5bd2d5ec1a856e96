/- Parts that come in. -/
import Derived.Test.YtepjjgplnmkjgaaDoorOpn
import Derived.Test.YtepjjgplnmkjgaaDoorNq5
import Derived.Lib.SmallJoins
namespace Go.Proofs.YtepjjgplnmkjgaaDoor
open Go.ChangeShapes Go.WideShapes Go.ChangeAt Go.RowKit

theorem cPart : Tryd.prog.cellsOf 25 = 2 := by kernel_rfl
set_option maxRecDepth 20000 in
set_option maxHeartbeats 1000000 in
theorem prts_in {H : Type} {enc : TypeId × Value → H} {W : World} {base : Nat} {sp : Nat → Bool} {held : Bool} {fuel : Nat} {cs : List Value} {y : DataW H × List MemPlace} (hf : DataW.trod enc Tryd.prog W base sp held fuel 22 cs = some y) :
    ∃ (v : Value) (l : List Na.Pr), cs = [v] ∧ Prts W v l := by
  rcases DataW.trod_slice Tryd.underlying22 hf with ⟨rfl, _⟩ | ⟨a, len, cap, elems, rest, m, _, rfl, _, _, hl, hm, hel, hall, _, _⟩
  · exact ⟨_, [], rfl, none, 0, 0, 0, rfl, fun h => absurd h (Nat.lt_irrefl _), fun i hi => absurd hi (Nat.not_lt_zero _)⟩
  · have each : ∀ i, i < len → ∃ (x : Na.Pr), W.cell? (a.add (i * 2)) = some (.string x.1) ∧ W.cell? ((a.add (i * 2)).add 1) = some (.string x.2) := fun i hi => by
      have h1 := hall i hi
      rw [List.getElem?_eq_getElem (by omega), cPart, Option.bind_eq_some_iff] at h1
      obtain ⟨cs', hc', hy'⟩ := h1
      obtain ⟨xs, k, _, _, _, hlen, hfd⟩ := DataW.trod_struct Tryd.underlying25 hy'
      obtain ⟨_, hlen2, hcs⟩ := World.cells?_some hc'
      match cs', hlen2 with
      | [c0, c1], _ =>
        obtain ⟨y0, y1, g0, g1⟩ : ∃ y0 y1, DataW.trod enc Tryd.prog W base sp held k 9 [c0] = some y0 ∧ DataW.trod enc Tryd.prog W base sp held k 9 [c1] = some y1 := by
          match xs, hlen with
          | [y0, y1], _ =>
            have g0 := hfd 0 _ rfl
            have g1 := hfd 1 _ rfl
            exact ⟨y0, y1, by simpa [cStr] using g0, by simpa [cStr] using g1⟩
        obtain ⟨S0, e0, _⟩ := DataW.trod_string Tryd.underlying9 g0
        obtain ⟨S1, e1, _⟩ := DataW.trod_string Tryd.underlying9 g1
        obtain rfl := (List.cons.inj e0).1
        obtain rfl := (List.cons.inj e1).1
        have q0 := hcs 0 (by omega)
        have q1 := hcs 1 (by omega)
        have ha0 : (a.add (i * 2)).add 0 = a.add (i * 2) := by unfold Addr.add; split <;> simp_all
        rw [ha0] at q0
        exact ⟨(S0, S1), by simpa using q0, by simpa using q1⟩
    rcases Nat.eq_zero_or_pos len with h0 | h0
    · subst h0
      refine ⟨.slice (some a) 0 cap, [], rfl, ?_⟩
      exact ⟨some a, 0, 0, cap, rfl, fun h => absurd h (Nat.lt_irrefl _), fun i hi => absurd hi (Nat.not_lt_zero _)⟩
    · obtain ⟨b, off, spot⟩ := a
      obtain ⟨x0, hc0, _⟩ := each 0 h0
      have hspot : spot = none := by simpa [Addr.add] using World.cell?_spot hc0
      subst hspot
      have hg : ∀ i : Nat, ∃ p : Na.Pr, i < len → W.cell? ⟨b, off + i * 2, none⟩ = some (.string p.1) ∧ W.cell? ⟨b, off + i * 2 + 1, none⟩ = some (.string p.2) := fun i => by
        by_cases hi : i < len
        · obtain ⟨x, h1, h2⟩ := each i hi
          simp only [addr_addO] at h1 h2
          exact ⟨x, fun _ => ⟨h1, h2⟩⟩
        · exact ⟨(Na.e0, Na.e0), fun h => absurd h hi⟩
      refine ⟨_, (List.range len).map fun i => Classical.choose (hg i), rfl, some ⟨b, off, none⟩, b, off, cap, by simp, fun _ => ⟨rfl, ?_⟩, fun i hi => ?_⟩
      · have := cell_lt hc0
        simpa [Addr.add] using this
      · have hi' : i < len := by simpa using hi
        have e : ((List.range len).map fun i => Classical.choose (hg i)).getD i (Na.e0, Na.e0) = Classical.choose (hg i) := by simp [List.getD_eq_getElem?_getD, hi']
        rw [e]
        exact Classical.choose_spec (hg i) hi'
end Go.Proofs.YtepjjgplnmkjgaaDoor
