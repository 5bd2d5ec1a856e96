import Derived.Test.YtagdcjpjbjboeaaGreatDoorZb25
import Derived.Test.YtagdcjpjbjboeaaGreatDoorZb27
import Derived.Lib.SmallJoins
namespace Go.Proofs.YtagdcjpjbjboeaaGreatDoor
open Go.ChangeShapes Go.WideShapes Go.ChangeAt Go.RowKit
section
variable {H : Type} {P : Program} {enc : TypeId × Value → H} {w : World} {base : Nat} {spare : Nat → Bool} {held : Bool}
theorem trod_struct5 {t : TypeId} {f0 f1 f2 f3 f4 : Field} {fuel : Nat} {cs : List Value} {x : DataW H × List MemPlace} (ht : P.underlying t = some (.struct #[f0, f1, f2, f3, f4])) (h : DataW.trod enc P w base spare held fuel t cs = some x) :
    ∃ y0 y1 y2 y3 y4 n, cs.length = P.cellsOf t ∧ DataW.trod enc P w base spare held n f0.type ((cs.drop f0.offset).take (P.cellsOf f0.type)) = some y0 ∧
      DataW.trod enc P w base spare held n f1.type ((cs.drop f1.offset).take (P.cellsOf f1.type)) = some y1 ∧ DataW.trod enc P w base spare held n f2.type ((cs.drop f2.offset).take (P.cellsOf f2.type)) = some y2 ∧
      DataW.trod enc P w base spare held n f3.type ((cs.drop f3.offset).take (P.cellsOf f3.type)) = some y3 ∧ DataW.trod enc P w base spare held n f4.type ((cs.drop f4.offset).take (P.cellsOf f4.type)) = some y4 := by
  obtain ⟨xs, n, _, rfl, hl, hlen, hf⟩ := DataW.trod_struct ht h
  match xs, hlen with
  | [y0, y1, y2, y3, y4], _ => exact ⟨y0, y1, y2, y3, y4, n, hl, by simpa using hf 0 f0 rfl, by simpa using hf 1 f1 rfl, by simpa using hf 2 f2 rfl, by simpa using hf 3 f3 rfl, by simpa using hf 4 f4 rfl⟩
end
theorem cText : Tryz.prog.cellsOf 9 = 1 := by kernel_rfl
theorem cBool8 : Tryz.prog.cellsOf 4 = 1 := by kernel_rfl
theorem cValue : Tryz.prog.cellsOf 41 = 5 := by kernel_rfl
/-- Values, as they lie one behind the other. -/
def ValsAt (W : World) (sb so : Nat) (xs : List De.Val) : Prop := ∀ i, i < xs.length → ∃ v S, W.cell? ⟨sb, so + i * 5, none⟩ = some (.int .i64 (xs.getD i De.none0).kind) ∧ W.cell? ⟨sb, so + i * 5 + 1, none⟩ = some (.int .i64 (xs.getD i De.none0).n) ∧ W.cell? ⟨sb, so + i * 5 + 2, none⟩ = some (.bool (xs.getD i De.none0).is) ∧
  W.cell? ⟨sb, so + i * 5 + 3, none⟩ = some v ∧ W.cell? ⟨sb, so + i * 5 + 4, none⟩ = some (.string S) ∧ Bytes W v (xs.getD i De.none0).b ∧ Whole0 v ∧ strL S = (xs.getD i De.none0).t ∧ De.I64 (xs.getD i De.none0).kind ∧ De.I64 (xs.getD i De.none0).n
theorem ValsAt.grown {W W' : World} {sb so : Nat} {xs : List De.Val} (h : ValsAt W sb so xs) (hg : W.grownBy W' none) (hb : 0 < xs.length → sb < W.heap.size) : ValsAt W' sb so xs := fun i hi => by
  obtain ⟨v, S, h0, h1, h2, h3, h4, h5, h6⟩ := h i hi
  have e : ∀ o, W'.cell? ⟨sb, o, none⟩ = W.cell? ⟨sb, o, none⟩ := fun o => World.cell?_of_block (hg.block sb (hb (by omega)) (by simp))
  exact ⟨v, S, by rw [e]; exact h0, by rw [e]; exact h1, by rw [e]; exact h2, by rw [e]; exact h3, by rw [e]; exact h4, h5.grown hg, h6⟩
set_option maxRecDepth 20000 in
set_option maxHeartbeats 1000000 in
theorem vals_in {H : Type} {enc : TypeId × Value → H} {W : World} {base : Nat} {sp : Nat → Bool} {held : Bool} {fuel : Nat} {cs : List Value} {y : DataW H × List MemPlace} (hf : DataW.trod enc Tryz.prog W base sp held fuel 46 cs = some y) :
    ∃ (a : Option Addr) (sb so n c : Nat) (xs : List De.Val), cs = [.slice a n c] ∧ xs.length = n ∧ (0 < n → a = some ⟨sb, so, none⟩ ∧ sb < W.heap.size) ∧ ValsAt W sb so xs ∧ n ≤ maxLen ∧ n ≤ c := by
  rcases DataW.trod_slice Tryz.underlying46 hf with ⟨rfl, _⟩ | ⟨a, len, cap, elems, rest, m, _, rfl, _, _, hl, hm, hel, hall, _, _⟩
  · exact ⟨none, 0, 0, 0, 0, [], rfl, rfl, fun h => absurd h (Nat.lt_irrefl _), fun i hi => absurd hi (Nat.not_lt_zero _), by unfold maxLen; simp, Nat.le_refl _⟩
  · have each : ∀ i, i < len → ∃ (x : De.Val) (v : Value) (S : ByteArray), W.cell? (a.add (i * 5)) = some (.int .i64 x.kind) ∧ W.cell? ((a.add (i * 5)).add 1) = some (.int .i64 x.n) ∧ W.cell? ((a.add (i * 5)).add 2) = some (.bool x.is) ∧ W.cell? ((a.add (i * 5)).add 3) = some v ∧ W.cell? ((a.add (i * 5)).add 4) = some (.string S) ∧
        Bytes W v x.b ∧ Whole0 v ∧ strL S = x.t ∧ De.I64 x.kind ∧ De.I64 x.n := fun i hi => by
      have h1 := hall i hi
      rw [List.getElem?_eq_getElem (by omega), cValue, Option.bind_eq_some_iff] at h1
      obtain ⟨cs', hc', hy'⟩ := h1
      obtain ⟨y0, y1, y2, y3, y4, k, hlen, g0, g1, g2, g3, g4⟩ := trod_struct5 Tryz.underlying41 hy'
      obtain ⟨_, hlen2, hcs⟩ := World.cells?_some hc'
      match cs', hlen2 with
      | [c0, c1, c2, c3, c4], _ =>
        simp only [cInt, cBool8, cSl, cText, List.drop_zero, List.drop_succ_cons, List.take_succ_cons, List.take_zero] at g0 g1 g2 g3 g4
        obtain ⟨n0, e0, _, b0⟩ := DataW.trod_int Tryz.underlying3 g0
        obtain ⟨n1, e1, _, b1⟩ := DataW.trod_int Tryz.underlying3 g1
        obtain ⟨f, e2, _⟩ := DataW.trod_bool Tryz.underlying4 g2
        obtain ⟨a', l', c', e3⟩ := Joins.slice_form Tryz.underlying22 g3
        obtain ⟨S, e4, _⟩ := DataW.trod_string Tryz.underlying9 g4
        obtain rfl := (List.cons.inj e0).1
        obtain rfl := (List.cons.inj e1).1
        obtain rfl := (List.cons.inj e2).1
        obtain rfl := (List.cons.inj e3).1
        obtain rfl := (List.cons.inj e4).1
        obtain ⟨l, hB, hW, _⟩ := bytes_in (v := .slice a' l' c') (d := y3.1) (p := y3.2) ⟨k, by simpa [Value.cells] using g3⟩ ⟨_, _, _, rfl⟩
        have q0 := hcs 0 (by omega)
        have q1 := hcs 1 (by omega)
        have q2 := hcs 2 (by omega)
        have q3 := hcs 3 (by omega)
        have q4 := hcs 4 (by omega)
        have ha0 : (a.add (i * 5)).add 0 = a.add (i * 5) := by unfold Addr.add; split <;> simp_all
        rw [ha0] at q0
        have i0 := bounds_i64 b0
        have i1 := bounds_i64 b1
        exact ⟨⟨n0, n1, f, l, strL S⟩, _, S, by simpa using q0, by simpa using q1, by simpa using q2, by simpa using q3, by simpa using q4, hB, hW, rfl, ⟨by show -9223372036854775808 ≤ n0; omega, by show n0 ≤ 9223372036854775807; omega⟩, ⟨by show -9223372036854775808 ≤ n1; omega, by show n1 ≤ 9223372036854775807; omega⟩⟩
    rcases Nat.eq_zero_or_pos len with h0 | h0
    · subst h0
      exact ⟨some a, 0, 0, 0, cap, [], rfl, rfl, fun h => absurd h (Nat.lt_irrefl _), fun i hi => absurd hi (Nat.not_lt_zero _), Nat.zero_le _, Nat.zero_le _⟩
    · obtain ⟨b, off, spot⟩ := a
      obtain ⟨x0, v0, S0, hc0, _⟩ := each 0 h0
      have hspot : spot = none := by simpa [Addr.add] using World.cell?_spot hc0
      subst hspot
      have hg : ∀ i : Nat, ∃ p : De.Val, i < len → ∃ v S, W.cell? ⟨b, off + i * 5, none⟩ = some (.int .i64 p.kind) ∧ W.cell? ⟨b, off + i * 5 + 1, none⟩ = some (.int .i64 p.n) ∧ W.cell? ⟨b, off + i * 5 + 2, none⟩ = some (.bool p.is) ∧ W.cell? ⟨b, off + i * 5 + 3, none⟩ = some v ∧ W.cell? ⟨b, off + i * 5 + 4, none⟩ = some (.string S) ∧
          Bytes W v p.b ∧ Whole0 v ∧ strL S = p.t ∧ De.I64 p.kind ∧ De.I64 p.n := fun i => by
        by_cases hi : i < len
        · obtain ⟨x, v, S, h1, h2, h3, h4, h5, h6⟩ := each i hi
          simp only [addr_addO] at h1 h2 h3 h4 h5
          exact ⟨x, fun _ => ⟨v, S, h1, h2, h3, h4, h5, h6⟩⟩
        · exact ⟨De.none0, fun h => absurd h hi⟩
      refine ⟨_, b, off, len, cap, (List.range len).map fun i => Classical.choose (hg i), rfl, by simp, fun _ => ⟨rfl, ?_⟩, fun i hi => ?_, Nat.le_trans hl hm, hl⟩
      · have := cell_lt hc0
        simpa [Addr.add] using this
      · have hi' : i < len := by simpa using hi
        obtain ⟨v, S, h1⟩ := Classical.choose_spec (hg i) hi'
        have e : ((List.range len).map fun i => Classical.choose (hg i)).getD i De.none0 = Classical.choose (hg i) := by simp [List.getD_eq_getElem?_getD, hi']
        rw [e]
        exact ⟨v, S, h1⟩
end Go.Proofs.YtagdcjpjbjboeaaGreatDoor
