import Derived.Test.YtihioekepflpiaaGreatDoorZb27
import Derived.Test.YtihioekepflpiaaGreatDoorZb29
import Derived.Test.YtihioekepflpiaaGreatDoorZb30
import Derived.Test.YtihioekepflpiaaGreatDoorZb31
import Derived.Test.YtihioekepflpiaaGreatDoorZb42
import Derived.Test.YtihioekepflpiaaGreatDoorZb43
import Derived.Test.YtihioekepflpiaaGreatDoorZb45
import Derived.Test.YtihioekepflpiaaGreatDoorZb47
import Derived.Lib.SmallJoins
set_option linter.unusedVariables false
set_option linter.unusedSimpArgs false
namespace Go.Proofs.YtihioekepflpiaaGreatDoor
open Go.ChangeShapes Go.WideShapes Go.ChangeAt Go.RowKit Bu
section
variable {H : Type} {P : Program} {enc : TypeId × Value → H} {w : World} {base : Nat} {spare : Nat → Bool} {held : Bool}
theorem trod_struct4b {t : TypeId} {f0 f1 f2 f3 : Field} {fuel : Nat} {cs : List Value} {x : DataW H × List MemPlace} (ht : P.underlying t = some (.struct #[f0, f1, f2, f3])) (h : DataW.trod enc P w base spare held fuel t cs = some x) :
    ∃ y0 y1 y2 y3 n, cs.length = P.cellsOf t ∧ DataW.trod enc P w base spare held n f0.type ((cs.drop f0.offset).take (P.cellsOf f0.type)) = some y0 ∧
      DataW.trod enc P w base spare held n f1.type ((cs.drop f1.offset).take (P.cellsOf f1.type)) = some y1 ∧ DataW.trod enc P w base spare held n f2.type ((cs.drop f2.offset).take (P.cellsOf f2.type)) = some y2 ∧
      DataW.trod enc P w base spare held n f3.type ((cs.drop f3.offset).take (P.cellsOf f3.type)) = some y3 := by
  obtain ⟨xs, n, _, rfl, hl, hlen, hf⟩ := DataW.trod_struct ht h
  match xs, hlen with
  | [y0, y1, y2, y3], _ => exact ⟨y0, y1, y2, y3, n, hl, by simpa using hf 0 f0 rfl, by simpa using hf 1 f1 rfl, by simpa using hf 2 f2 rfl, by simpa using hf 3 f3 rfl⟩
theorem trod_struct2b {t : TypeId} {f0 f1 : Field} {fuel : Nat} {cs : List Value} {x : DataW H × List MemPlace} (ht : P.underlying t = some (.struct #[f0, f1])) (h : DataW.trod enc P w base spare held fuel t cs = some x) :
    ∃ y0 y1 n, cs.length = P.cellsOf t ∧ DataW.trod enc P w base spare held n f0.type ((cs.drop f0.offset).take (P.cellsOf f0.type)) = some y0 ∧
      DataW.trod enc P w base spare held n f1.type ((cs.drop f1.offset).take (P.cellsOf f1.type)) = some y1 := by
  obtain ⟨xs, n, _, rfl, hl, hlen, hf⟩ := DataW.trod_struct ht h
  match xs, hlen with
  | [y0, y1], _ => exact ⟨y0, y1, n, hl, by simpa using hf 0 f0 rfl, by simpa using hf 1 f1 rfl⟩
end
theorem cBoolB : Tryz.prog.cellsOf 4 = 1 := by kernel_rfl
theorem cAnc : Tryz.prog.cellsOf 33 = 4 := by kernel_rfl
theorem cStep : Tryz.prog.cellsOf 35 = 5 := by kernel_rfl
/-- Cells of anchors that are known one by one. -/
theorem cells_of_ans {W : World} {g off : Nat} {l : List An} (h : ∀ i, i < l.length → W.cell? ⟨g, off + i * 4, none⟩ = some (.int .i64 (l.getD i an0).g) ∧ W.cell? ⟨g, off + i * 4 + 1, none⟩ = some (.string (l.getD i an0).k) ∧ W.cell? ⟨g, off + i * 4 + 2, none⟩ = some (.int .i64 (l.getD i an0).f) ∧ W.cell? ⟨g, off + i * 4 + 3, none⟩ = some (.int .i64 (l.getD i an0).t)) :
    ∀ j u, (cellsA l)[j]? = some u → W.cell? ⟨g, off + j, none⟩ = some u := by
  intro t u hu
  have hl : t < (cellsA l).length := (List.getElem?_eq_some_iff.1 hu).1
  rw [cellsA_len] at hl
  have hi : t / 4 < l.length := by omega
  obtain ⟨k0, k1, k2, k3⟩ := cellsA_at l (t / 4) hi
  obtain ⟨c0, c1, c2, c3⟩ := h (t / 4) hi
  rcases (by omega : t % 4 = 0 ∨ t % 4 = 1 ∨ t % 4 = 2 ∨ t % 4 = 3) with e | e | e | e
  · rw [show t / 4 * 4 = t by omega, hu] at k0
    rw [show off + t = off + t / 4 * 4 by omega, c0, Option.some.inj k0]
  · rw [show t / 4 * 4 + 1 = t by omega, hu] at k1
    rw [show off + t = off + t / 4 * 4 + 1 by omega, c1, Option.some.inj k1]
  · rw [show t / 4 * 4 + 2 = t by omega, hu] at k2
    rw [show off + t = off + t / 4 * 4 + 2 by omega, c2, Option.some.inj k2]
  · rw [show t / 4 * 4 + 3 = t by omega, hu] at k3
    rw [show off + t = off + t / 4 * 4 + 3 by omega, c3, Option.some.inj k3]
theorem cells_of_stps {W : World} {g off : Nat} {l : List Stp} (h : ∀ i, i < l.length → W.cell? ⟨g, off + i * 5, none⟩ = some (.bool (l.getD i st0).go) ∧ W.cell? ⟨g, off + i * 5 + 1, none⟩ = some (.int .i64 (l.getD i st0).x.g) ∧ W.cell? ⟨g, off + i * 5 + 2, none⟩ = some (.string (l.getD i st0).x.k) ∧ W.cell? ⟨g, off + i * 5 + 3, none⟩ = some (.int .i64 (l.getD i st0).x.f) ∧ W.cell? ⟨g, off + i * 5 + 4, none⟩ = some (.int .i64 (l.getD i st0).x.t)) :
    ∀ j u, (cellsT l)[j]? = some u → W.cell? ⟨g, off + j, none⟩ = some u := by
  intro t u hu
  have hl : t < (cellsT l).length := (List.getElem?_eq_some_iff.1 hu).1
  rw [cellsT_len] at hl
  have hi : t / 5 < l.length := by omega
  obtain ⟨k0, k1, k2, k3, k4⟩ := cellsT_at l (t / 5) hi
  obtain ⟨c0, c1, c2, c3, c4⟩ := h (t / 5) hi
  rcases (by omega : t % 5 = 0 ∨ t % 5 = 1 ∨ t % 5 = 2 ∨ t % 5 = 3 ∨ t % 5 = 4) with e | e | e | e | e
  · rw [show t / 5 * 5 = t by omega, hu] at k0
    rw [show off + t = off + t / 5 * 5 by omega, c0, Option.some.inj k0]
  · rw [show t / 5 * 5 + 1 = t by omega, hu] at k1
    rw [show off + t = off + t / 5 * 5 + 1 by omega, c1, Option.some.inj k1]
  · rw [show t / 5 * 5 + 2 = t by omega, hu] at k2
    rw [show off + t = off + t / 5 * 5 + 2 by omega, c2, Option.some.inj k2]
  · rw [show t / 5 * 5 + 3 = t by omega, hu] at k3
    rw [show off + t = off + t / 5 * 5 + 3 by omega, c3, Option.some.inj k3]
  · rw [show t / 5 * 5 + 4 = t by omega, hu] at k4
    rw [show off + t = off + t / 5 * 5 + 4 by omega, c4, Option.some.inj k4]
set_option maxRecDepth 20000 in
set_option maxHeartbeats 1000000 in
theorem an_trod {H : Type} {enc : TypeId × Value → H} {W : World} {base : Nat} {sp : Nat → Bool} {held : Bool} {fuel : Nat} {c0 c1 c2 c3 : Value} {y : DataW H × List MemPlace} (hy' : DataW.trod enc Tryz.prog W base sp held fuel 33 [c0, c1, c2, c3] = some y) :
    ∃ x : An, c0 = .int .i64 x.g ∧ c1 = .string x.k ∧ c2 = .int .i64 x.f ∧ c3 = .int .i64 x.t := by
  obtain ⟨y0, y1, y2, y3, k, hlen, g0, g1, g2, g3⟩ := trod_struct4b Tryz.underlying33 hy'
  simp only [cInt, cStr, List.drop_zero, List.drop_succ_cons, List.take_succ_cons, List.take_zero] at g0 g1 g2 g3
  obtain ⟨n0, e0, _, b0⟩ := DataW.trod_int Tryz.underlying3 g0
  obtain ⟨n1, e1, _⟩ := DataW.trod_string Tryz.underlying9 g1
  obtain ⟨n2, e2, _, b2⟩ := DataW.trod_int Tryz.underlying3 g2
  obtain ⟨n3, e3, _, b3⟩ := DataW.trod_int Tryz.underlying3 g3
  obtain rfl := (List.cons.inj e0).1
  obtain rfl := (List.cons.inj e1).1
  obtain rfl := (List.cons.inj e2).1
  obtain rfl := (List.cons.inj e3).1
  exact ⟨⟨n0, n1, n2, n3⟩, rfl, rfl, rfl, rfl⟩
theorem four_of {cs : List Value} (h : cs.length = 4) : ∃ a b c d, cs = [a, b, c, d] := by
  match cs, h with
  | [a, b, c, d], _ => exact ⟨a, b, c, d, rfl⟩
theorem five_of {cs : List Value} (h : cs.length = 5) : ∃ a b c d e, cs = [a, b, c, d, e] := by
  match cs, h with
  | [a, b, c, d, e], _ => exact ⟨a, b, c, d, e, rfl⟩
theorem add_zero9 (a : Addr) : a.add 0 = a := by unfold Addr.add; split <;> simp_all
set_option maxRecDepth 20000 in
set_option maxHeartbeats 1000000 in
theorem ans_in {H : Type} {enc : TypeId × Value → H} {W : World} {base : Nat} {sp : Nat → Bool} {held : Bool} {fuel : Nat} {cs : List Value} {y : DataW H × List MemPlace} (hf : DataW.trod enc Tryz.prog W base sp held fuel 22 cs = some y) :
    ∃ (v : Value) (l : List An), cs = [v] ∧ Ans W v l := by
  rcases DataW.trod_slice Tryz.underlying22 hf with ⟨rfl, _⟩ | ⟨a, len, cap, elems, rest, m, _, rfl, _, _, hl, hm, hel, hall, _, _⟩
  · exact ⟨_, [], rfl, Ans.nil W⟩
  · have each : ∀ i, i < len → ∃ x : An, W.cell? (a.add (i * 4)) = some (.int .i64 x.g) ∧ W.cell? ((a.add (i * 4)).add 1) = some (.string x.k) ∧ W.cell? ((a.add (i * 4)).add 2) = some (.int .i64 x.f) ∧ W.cell? ((a.add (i * 4)).add 3) = some (.int .i64 x.t) := fun i hi => by
      have h1 := hall i hi
      rw [List.getElem?_eq_getElem (by omega), cAnc, Option.bind_eq_some_iff] at h1
      obtain ⟨cs', hc', hy'⟩ := h1
      obtain ⟨_, hlen2, hcs⟩ := World.cells?_some hc'
      obtain ⟨c0, c1, c2, c3, rfl⟩ := four_of hlen2
      obtain ⟨x, rfl, rfl, rfl, rfl⟩ := an_trod hy'
      have q0 := hcs 0 (by omega)
      rw [add_zero9] at q0
      exact ⟨x, by simpa using q0, by simpa using hcs 1 (by omega), by simpa using hcs 2 (by omega), by simpa using hcs 3 (by omega)⟩
    rcases Nat.eq_zero_or_pos len with h0 | h0
    · subst h0
      exact ⟨.slice (some a) 0 cap, [], rfl, ⟨rfl, some a, 0, 0, cap, rfl, fun h => absurd h (Nat.lt_irrefl _), fun j v hj => by cases hj⟩, Whole0.some _ _ _⟩
    · obtain ⟨b, off, spot⟩ := a
      obtain ⟨x0, hc0, _⟩ := each 0 h0
      have hspot : spot = none := by simpa [Addr.add] using World.cell?_spot hc0
      subst hspot
      have hg : ∀ i : Nat, ∃ p : An, i < len → W.cell? ⟨b, off + i * 4, none⟩ = some (.int .i64 p.g) ∧ W.cell? ⟨b, off + i * 4 + 1, none⟩ = some (.string p.k) ∧ W.cell? ⟨b, off + i * 4 + 2, none⟩ = some (.int .i64 p.f) ∧ W.cell? ⟨b, off + i * 4 + 3, none⟩ = some (.int .i64 p.t) := fun i => by
        by_cases hi : i < len
        · obtain ⟨x, h1, h2, h3, h4⟩ := each i hi
          simp only [addr_addO] at h1 h2 h3 h4
          exact ⟨x, fun _ => ⟨h1, h2, h3, h4⟩⟩
        · exact ⟨an0, fun h => absurd h hi⟩
      refine ⟨_, (List.range len).map fun i => Classical.choose (hg i), rfl, ⟨by rw [cellsA_len], some ⟨b, off, none⟩, b, off, cap, by simp, fun _ => ⟨rfl, ?_⟩, cells_of_ans (fun i hi => ?_)⟩, Whole0.some _ _ _⟩
      · have := cell_lt hc0
        simpa [Addr.add] using this
      · have hi' : i < len := by simpa using hi
        have h1 := Classical.choose_spec (hg i) hi'
        have e : ((List.range len).map fun i => Classical.choose (hg i)).getD i an0 = Classical.choose (hg i) := by simp [List.getD_eq_getElem?_getD, hi']
        rw [e]
        exact h1
set_option maxRecDepth 20000 in
set_option maxHeartbeats 1000000 in
theorem stps_in {H : Type} {enc : TypeId × Value → H} {W : World} {base : Nat} {sp : Nat → Bool} {held : Bool} {fuel : Nat} {cs : List Value} {y : DataW H × List MemPlace} (hf : DataW.trod enc Tryz.prog W base sp held fuel 25 cs = some y) :
    ∃ (v : Value) (l : List Stp), cs = [v] ∧ StpsV W v l := by
  rcases DataW.trod_slice Tryz.underlying25 hf with ⟨rfl, _⟩ | ⟨a, len, cap, elems, rest, m, _, rfl, _, _, hl, hm, hel, hall, _, _⟩
  · exact ⟨_, [], rfl, rfl, none, 0, 0, 0, rfl, fun h => absurd h (Nat.lt_irrefl _), fun j v hj => by cases hj⟩
  · have each : ∀ i, i < len → ∃ s : Stp, W.cell? (a.add (i * 5)) = some (.bool s.go) ∧ W.cell? ((a.add (i * 5)).add 1) = some (.int .i64 s.x.g) ∧ W.cell? ((a.add (i * 5)).add 2) = some (.string s.x.k) ∧ W.cell? ((a.add (i * 5)).add 3) = some (.int .i64 s.x.f) ∧ W.cell? ((a.add (i * 5)).add 4) = some (.int .i64 s.x.t) := fun i hi => by
      have h1 := hall i hi
      rw [List.getElem?_eq_getElem (by omega), cStep, Option.bind_eq_some_iff] at h1
      obtain ⟨cs', hc', hy'⟩ := h1
      obtain ⟨_, hlen2, hcs⟩ := World.cells?_some hc'
      obtain ⟨c0, c1, c2, c3, c4, rfl⟩ := five_of hlen2
      obtain ⟨y0, y1, k, _, g0, g1⟩ := trod_struct2b Tryz.underlying35 hy'
      simp only [cBoolB, cAnc, List.drop_zero, List.drop_succ_cons, List.take_succ_cons, List.take_zero] at g0 g1
      obtain ⟨q, e0, _⟩ := DataW.trod_bool Tryz.underlying4 g0
      obtain rfl := (List.cons.inj e0).1
      obtain ⟨x, rfl, rfl, rfl, rfl⟩ := an_trod g1
      have q0 := hcs 0 (by omega)
      rw [add_zero9] at q0
      exact ⟨⟨q, x⟩, by simpa using q0, by simpa using hcs 1 (by omega), by simpa using hcs 2 (by omega), by simpa using hcs 3 (by omega), by simpa using hcs 4 (by omega)⟩
    rcases Nat.eq_zero_or_pos len with h0 | h0
    · subst h0
      exact ⟨.slice (some a) 0 cap, [], rfl, rfl, some a, 0, 0, cap, rfl, fun h => absurd h (Nat.lt_irrefl _), fun j v hj => by cases hj⟩
    · obtain ⟨b, off, spot⟩ := a
      obtain ⟨x0, hc0, _⟩ := each 0 h0
      have hspot : spot = none := by simpa [Addr.add] using World.cell?_spot hc0
      subst hspot
      have hg : ∀ i : Nat, ∃ s : Stp, i < len → W.cell? ⟨b, off + i * 5, none⟩ = some (.bool s.go) ∧ W.cell? ⟨b, off + i * 5 + 1, none⟩ = some (.int .i64 s.x.g) ∧ W.cell? ⟨b, off + i * 5 + 2, none⟩ = some (.string s.x.k) ∧ W.cell? ⟨b, off + i * 5 + 3, none⟩ = some (.int .i64 s.x.f) ∧ W.cell? ⟨b, off + i * 5 + 4, none⟩ = some (.int .i64 s.x.t) := fun i => by
        by_cases hi : i < len
        · obtain ⟨x, h1, h2, h3, h4, h5⟩ := each i hi
          simp only [addr_addO] at h1 h2 h3 h4 h5
          exact ⟨x, fun _ => ⟨h1, h2, h3, h4, h5⟩⟩
        · exact ⟨st0, fun h => absurd h hi⟩
      refine ⟨_, (List.range len).map fun i => Classical.choose (hg i), rfl, by rw [cellsT_len], some ⟨b, off, none⟩, b, off, cap, by simp, fun _ => ⟨rfl, ?_⟩, cells_of_stps (fun i hi => ?_)⟩
      · have := cell_lt hc0
        simpa [Addr.add] using this
      · have hi' : i < len := by simpa using hi
        have h1 := Classical.choose_spec (hg i) hi'
        have e : ((List.range len).map fun i => Classical.choose (hg i)).getD i st0 = Classical.choose (hg i) := by simp [List.getD_eq_getElem?_getD, hi']
        rw [e]
        exact h1
theorem lens_genB {W : World} {L : List (String × DataW Unit)} (h : laidMet Tryz.prog L W) (hm : ("bulla/moments.lengths", (Rows.laid_bulla_moments_lengths : DataW Unit)) ∈ L) : Lens W := by
  obtain ⟨ps, hV, _, _⟩ := h
  obtain ⟨g, t, cs, fuel, p, e1, e2, e3, e4⟩ := laid_mem6 hV hm
  obtain rfl := Option.some.inj (gLen.symm.trans e1)
  obtain rfl := Option.some.inj (tLen.symm.trans e2)
  rw [dLen] at e4
  have hT : Lib.TabIs Tryz.prog W "bulla/moments.lengths" .i64 monthsL := by
    unfold Lib.TabIs
    rw [e3, ← Lib.cells_of_tab Tryz.underlying176 Tryz.underlying3 mcInt c12 e4]
  refine ⟨fun k hk => ?_⟩
  have := hT.cell gLen k (by simpa [monthsL] using hk)
  exact this
abbrev laidsBS : List (String × DataW Unit) := ("unicode/utf8.acceptRanges", Rows.laid_unicode_utf8_acceptRanges) ::
  (laids28 ++ [("bulla/moments.lengths", Rows.laid_bulla_moments_lengths), ("unicode/utf8.first", Rows.laid_unicode_utf8_first)])
theorem rowB_of {W : World} (h : laidMet Tryz.prog laidsBS W) : ∃ A, BodiesOf A W := by
  obtain ⟨A, hE⟩ := allErrs_of h (List.range' 1 28) rfl (by decide)
  have hL := lens_genB h (.tail _ (List.mem_append_right _ (.head _)))
  have hU := u8_of h (.tail _ (List.mem_append_right _ (.tail _ (.head _)))) (.head _)
  exact ⟨A, { errs := hE, texts := xput_any A W hE (plain_any W hU), moment := mPut_any A W hE hL }⟩
end Go.Proofs.YtihioekepflpiaaGreatDoor
