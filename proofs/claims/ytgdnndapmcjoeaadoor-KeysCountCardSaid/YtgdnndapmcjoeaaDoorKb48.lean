import Derived.Test.YtgdnndapmcjoeaaDoorKb45
import Derived.Test.YtgdnndapmcjoeaaDoorKb46
import Derived.Lib.SmallJoins
namespace Go.Proofs.YtgdnndapmcjoeaaDoor
open Go.ChangeShapes Go.WideShapes Go.ChangeAt Go.RowKit
section
variable {H : Type} {P : Program} {enc : TypeId × Value → H} {w : World} {base : Nat} {spare : Nat → Bool} {held : Bool}
theorem ktrod_struct3 {t : TypeId} {f0 f1 f2 : Field} {fuel : Nat} {cs : List Value} {x : DataW H × List MemPlace} (ht : P.underlying t = some (.struct #[f0, f1, f2])) (h : DataW.trod enc P w base spare held fuel t cs = some x) :
    ∃ y0 y1 y2 n, cs.length = P.cellsOf t ∧ DataW.trod enc P w base spare held n f0.type ((cs.drop f0.offset).take (P.cellsOf f0.type)) = some y0 ∧
      DataW.trod enc P w base spare held n f1.type ((cs.drop f1.offset).take (P.cellsOf f1.type)) = some y1 ∧ DataW.trod enc P w base spare held n f2.type ((cs.drop f2.offset).take (P.cellsOf f2.type)) = some y2 := by
  obtain ⟨xs, n, _, rfl, hl, hlen, hf⟩ := DataW.trod_struct ht h
  match xs, hlen with
  | [y0, y1, y2], _ => exact ⟨y0, y1, y2, n, hl, by simpa using hf 0 f0 rfl, by simpa using hf 1 f1 rfl, by simpa using hf 2 f2 rfl⟩
end
theorem kInt : Tryd.prog.cellsOf 3 = 1 := by kernel_rfl
theorem kSigned : Tryd.prog.cellsOf 55 = 3 := by kernel_rfl
set_option maxRecDepth 20000 in
set_option maxHeartbeats 1000000 in
theorem sgs_in {H : Type} {enc : TypeId × Value → H} {W : World} {base : Nat} {sp : Nat → Bool} {held : Bool} {fuel : Nat} {cs : List Value} {y : DataW H × List MemPlace} (hf : DataW.trod enc Tryd.prog W base sp held fuel 53 cs = some y) :
    ∃ (a : Option Addr) (sb so n c : Nat) (xs : List Sg), cs = [.slice a n c] ∧ xs.length = n ∧ (0 < n → a = some ⟨sb, so, none⟩ ∧ sb < W.heap.size) ∧ SgsAt W sb so xs ∧ n ≤ maxLen := by
  rcases DataW.trod_slice Tryd.underlying53 hf with ⟨rfl, _⟩ | ⟨a, len, cap, elems, rest, m, _, rfl, _, _, hl, hm, hel, hall, _, _⟩
  · exact ⟨none, 0, 0, 0, 0, [], rfl, rfl, fun h => absurd h (Nat.lt_irrefl _), fun i hi => absurd hi (Nat.not_lt_zero _), by unfold maxLen; simp⟩
  · have each : ∀ i, i < len → ∃ (x : Sg) (v : Value), W.cell? (a.add (i * 3)) = some (.int .i64 x.key) ∧ W.cell? ((a.add (i * 3)).add 1) = some (.string x.dom) ∧ W.cell? ((a.add (i * 3)).add 2) = some v ∧ Bytes W v x.msg ∧ Whole0 v := fun i hi => by
      have h1 := hall i hi
      rw [List.getElem?_eq_getElem (by omega), kSigned, Option.bind_eq_some_iff] at h1
      obtain ⟨cs', hc', hy'⟩ := h1
      obtain ⟨y0, y1, y2, k, hlen, g0, g1, g2⟩ := ktrod_struct3 Tryd.underlying55 hy'
      obtain ⟨_, hlen2, hcs⟩ := World.cells?_some hc'
      match cs', hlen2 with
      | [c0, c1, c2], _ =>
        simp only [kInt, cStr, cSl, List.drop_zero, List.drop_succ_cons, List.take_succ_cons, List.take_zero] at g0 g1 g2
        obtain ⟨n0, e0, _, b0⟩ := DataW.trod_int Tryd.underlying3 g0
        obtain ⟨S, e1, _⟩ := DataW.trod_string Tryd.underlying9 g1
        obtain ⟨a', l', c', e2⟩ := Joins.slice_form Tryd.underlying22 g2
        obtain rfl := (List.cons.inj e0).1
        obtain rfl := (List.cons.inj e1).1
        obtain rfl := (List.cons.inj e2).1
        obtain ⟨l, hB, hW, _⟩ := bytes_in (v := .slice a' l' c') (d := y2.1) (p := y2.2) ⟨k, by simpa [Value.cells] using g2⟩ ⟨_, _, _, rfl⟩
        have q0 := hcs 0 (by omega)
        have q1 := hcs 1 (by omega)
        have q2 := hcs 2 (by omega)
        have ha0 : (a.add (i * 3)).add 0 = a.add (i * 3) := by unfold Addr.add; split <;> simp_all
        rw [ha0] at q0
        exact ⟨⟨n0, S, l⟩, _, by simpa using q0, by simpa using q1, by simpa using q2, hB, hW⟩
    rcases Nat.eq_zero_or_pos len with h0 | h0
    · subst h0
      exact ⟨some a, 0, 0, 0, cap, [], rfl, rfl, fun h => absurd h (Nat.lt_irrefl _), fun i hi => absurd hi (Nat.not_lt_zero _), Nat.zero_le _⟩
    · obtain ⟨b, off, spot⟩ := a
      obtain ⟨x0, v0, hc0, _⟩ := each 0 h0
      have hspot : spot = none := by simpa [Addr.add] using World.cell?_spot hc0
      subst hspot
      have hg : ∀ i : Nat, ∃ p : Sg, i < len → ∃ v, W.cell? ⟨b, off + i * 3, none⟩ = some (.int .i64 p.key) ∧ W.cell? ⟨b, off + i * 3 + 1, none⟩ = some (.string p.dom) ∧ W.cell? ⟨b, off + i * 3 + 2, none⟩ = some v ∧ Bytes W v p.msg ∧ Whole0 v := fun i => by
        by_cases hi : i < len
        · obtain ⟨x, v, h1, h2, h3, h4⟩ := each i hi
          simp only [addr_addO] at h1 h2 h3
          exact ⟨x, fun _ => ⟨v, h1, h2, h3, h4⟩⟩
        · exact ⟨Sg.zero, fun h => absurd h hi⟩
      refine ⟨some ⟨b, off, none⟩, b, off, len, cap, (List.range len).map fun i => Classical.choose (hg i), rfl, by simp, fun _ => ⟨rfl, ?_⟩, fun i hi => ?_, by omega⟩
      · have := cell_lt hc0
        simpa [Addr.add] using this
      · have hi' : i < len := by simpa using hi
        have e : ((List.range len).map fun i => Classical.choose (hg i)).getD i Sg.zero = Classical.choose (hg i) := by simp [List.getD_eq_getElem?_getD, hi']
        rw [e]
        exact Classical.choose_spec (hg i) hi'
end Go.Proofs.YtgdnndapmcjoeaaDoor
