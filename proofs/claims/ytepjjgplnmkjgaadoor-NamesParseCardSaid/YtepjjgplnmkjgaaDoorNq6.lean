/- slices.Equal over parts. -/
import Derived.Test.YtepjjgplnmkjgaaDoorNq5
import Derived.BigQuiet
namespace Go.Proofs.YtepjjgplnmkjgaaDoor
open Go.RowKit
set_option linter.unusedVariables false

theorem Prts.form {w : World} {v : Value} {l : List Na.Pr} (h : Prts w v l) : ∃ a c, v = .slice a l.length c := by
  obtain ⟨a, _, _, c, e, _⟩ := h
  exact ⟨a, c, e⟩
set_option maxRecDepth 100000 in
set_option maxHeartbeats 4000000 in
theorem eqParts_any (v1 v2 : Value) (l m : List Na.Pr) (w : World) (h1 : Prts w v1 l) (h2 : Prts w v2 m) (hl : l.length ≤ 1000) (hm : m.length ≤ 1000) :
    Calls Tryd.prog 20 #[v1, v2] w fun e w' => e = .returned (.bool (decide (l = m))) ∧ w.grownBy w' none := by
  have HP1 := Lib.hid (fun W (hg : w.grownBy W none) => h1.grown hg)
  have HP2 := Lib.hid (fun W (hg : w.grownBy W none) => h2.grown hg)
  obtain ⟨a1, b1, s1, c1, rfl, ha1, hx1⟩ := h1
  obtain ⟨a2, b2, s2, c2, rfl, ha2, hx2⟩ := h2
  by_cases hlm : l.length = m.length
  · have HX1 := Lib.hid (fun W (hg : w.grownBy W none) i (hi : i < l.length) => (show W.cell? ⟨b1, s1 + i * 2, none⟩ = some (.string (l.getD i (Na.e0, Na.e0)).1) ∧ W.cell? ⟨b1, s1 + i * 2 + 1, none⟩ = some (.string (l.getD i (Na.e0, Na.e0)).2) from by
      have hb := hg.block b1 (ha1 (by omega)).2 (by simp)
      exact ⟨(World.cell?_of_block hb).trans (hx1 i hi).1, (World.cell?_of_block hb).trans (hx1 i hi).2⟩))
    have HX2 := Lib.hid (fun W (hg : w.grownBy W none) i (hi : i < m.length) => (show W.cell? ⟨b2, s2 + i * 2, none⟩ = some (.string (m.getD i (Na.e0, Na.e0)).1) ∧ W.cell? ⟨b2, s2 + i * 2 + 1, none⟩ = some (.string (m.getD i (Na.e0, Na.e0)).2) from by
      have hb := hg.block b2 (ha2 (by omega)).2 (by simp)
      exact ⟨(World.cell?_of_block hb).trans (hx2 i hi).1, (World.cell?_of_block hb).trans (hx2 i hi).2⟩))
    obtain ⟨N, hN⟩ : ∃ N, N = l.length := ⟨_, rfl⟩
    have HA1 : Hid (0 < N → a1 = some ⟨b1, s1, none⟩) := Lib.hid (fun h => (ha1 (by omega)).1)
    have HA2 : Hid (0 < N → a2 = some ⟨b2, s2, none⟩) := Lib.hid (fun h => (ha2 (by omega)).1)
    have HEq : Hid ((∀ j, j < N → l.getD j (Na.e0, Na.e0) = m.getD j (Na.e0, Na.e0)) → l = m) := Lib.hid (fun h => by
      apply List.ext_getElem (by omega)
      intro i hi hi2
      have := h i (by omega)
      rw [List.getD_eq_getElem?_getD, List.getD_eq_getElem?_getD, List.getElem?_eq_getElem hi, List.getElem?_eq_getElem hi2] at this
      simpa using this)
    rw [← hN] at HX1
    rw [← hlm, ← hN] at HX2
    rw [← hlm, ← hN]
    have hNl : N ≤ 1000 := by omega
    obtain ⟨R, hR⟩ : ∃ R, R = decide (l = m) := ⟨_, rfl⟩
    rw [← hR]
    have HR := Lib.hid hR
    clear hR
    clear ha1 ha2 hx1 hx2 hlm hl hm hN HP1 HP2
    go_enter Tryd.func20, Tryd.ntmps20
    go_wp2
    go_loopw [13, 5] (fun i _ wr => ∃ k : Nat, k ≤ N ∧ i = .int .i64 (k : Int) ∧ w.grownBy wr none ∧ ∀ j, j < k → l.getD j (Na.e0, Na.e0) = m.getD j (Na.e0, Na.e0)) (fun i _ _ => N - (intOf i).toNat)
    case atStart => exact ⟨0, by omega, rfl, grown_refl _ _, fun j hj => absurd hj (Nat.not_lt_zero _)⟩
    case round =>
      obtain ⟨k, hk, rfl, hg, h0⟩ := hrel
      have HG := Lib.hid hg
      have H0 := Lib.hid h0
      clear hg h0
      by_cases hkN : k < N
      · obtain ⟨x0, x1⟩ := HX1.out wr HG.out k hkN
        obtain ⟨y0, y1⟩ := HX2.out wr HG.out k hkN
        obtain rfl := HA1.out (by omega)
        obtain rfl := HA2.out (by omega)
        by_cases he : l.getD k (Na.e0, Na.e0) = m.getD k (Na.e0, Na.e0)
        · have HN2 : Hid (∀ j, j < k + 1 → l.getD j (Na.e0, Na.e0) = m.getD j (Na.e0, Na.e0)) := Lib.hid (fun j hj => by
            rcases Nat.lt_or_ge j k with h | h
            · exact H0.out j h
            · obtain rfl : j = k := by omega
              exact he)
          rw [← he] at y0 y1
          generalize l.getD k (Na.e0, Na.e0) = p at *
          obtain ⟨p1, p2⟩ := p
          simp only at x0 x1 y0 y1
          clear he
          go_wp2
          go_quiet (fail)
          go_wp2
          go_roundw
          case rel => exact ⟨k + 1, by omega, by go_num, grown_drewN HG.out _, HN2.out⟩
          case measure => simp [intOf]; omega
        · have hlm : Hid (decide (l = m) = false) := Lib.hid (decide_eq_false (fun h => he (by rw [h])))
          generalize l.getD k (Na.e0, Na.e0) = p at *
          generalize m.getD k (Na.e0, Na.e0) = q at *
          obtain ⟨p1, p2⟩ := p
          obtain ⟨q1, q2⟩ := q
          simp only at x0 x1 y0 y1
          have hcs : (¬ p1.toList = q1.toList) ∨ (p1 = q1 ∧ ¬ p2.toList = q2.toList) := by
            by_cases e : p1 = q1
            · exact .inr ⟨e, fun h => he (by rw [e, Na.toList_inj h])⟩
            · exact .inl (fun h => e (Na.toList_inj h))
          clear he
          rcases hcs with hc | ⟨rfl, hc⟩
          all_goals
            go_wp2
            go_quiet (fail)
            go_wp2
            go_ret
            exact ⟨retB7 (by rw [HR.out, hlm.out]), grown_drewN HG.out _⟩
      · obtain rfl : k = N := by omega
        have hlm : Hid (decide (l = m) = true) := Lib.hid (decide_eq_true (HEq.out H0.out))
        go_wp2
        go_ret
        exact ⟨retB7 (by rw [HR.out, hlm.out]), HG.out⟩
  · have hne : ¬ l = m := fun h => hlm (by rw [h])
    rw [decide_eq_false hne]
    have hlm' : ((l.length : Int) == (m.length : Int)) = false := by rw [beq_eq_false_iff_ne]; omega
    generalize l.length = N1 at *
    generalize m.length = N2 at *
    clear ha1 ha2 hx1 hx2 hne hlm HP1 HP2
    go_enter Tryd.func20, Tryd.ntmps20
    go_wp2
    go_ret
    exact ⟨rfl, grown_refl _ _⟩
end Go.Proofs.YtepjjgplnmkjgaaDoor
