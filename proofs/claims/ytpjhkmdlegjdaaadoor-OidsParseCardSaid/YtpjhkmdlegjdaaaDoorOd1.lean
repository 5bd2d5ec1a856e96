/- The walks of the document's Right and Compare. -/
import Derived.Test.YtpjhkmdlegjdaaaDoorIn2
import Derived.Test.YtpjhkmdlegjdaaaDoorOd8
namespace Go.Proofs.YtpjhkmdlegjdaaaDoor
open Go.RowKit

set_option maxRecDepth 100000 in
set_option maxHeartbeats 1000000 in
theorem refRight_any (v : Value) (l : List Int) (w : World) (hB : Ints w v l) :
    Calls Tryd.prog 17 #[v] w fun e w' => e = .returned (.bool (Od.right l)) ∧ w' = w := by
  obtain ⟨a, sb, so, c, rfl, hc, ha, hcell⟩ := hB
  obtain ⟨n, hn⟩ : ∃ n, n = l.length := ⟨_, rfl⟩
  have hiff := Od.right_iff l
  have hall : (∀ z ∈ l, 0 ≤ z ∧ z ≤ 2147483647) ↔ ∀ j, j < n → 0 ≤ l.getD j 0 ∧ l.getD j 0 ≤ 2147483647 := by
    rw [hn]
    constructor
    · intro h j hj
      have := h l[j] (List.getElem_mem hj)
      rw [List.getD_eq_getElem?_getD, List.getElem?_eq_getElem hj]
      exact this
    · intro h z hz
      obtain ⟨j, hj, rfl⟩ := List.mem_iff_getElem.1 hz
      have := h j hj
      rw [List.getD_eq_getElem?_getD, List.getElem?_eq_getElem hj] at this
      exact this
  rw [hall] at hiff
  rw [← hn] at hc ha hcell hiff ⊢
  have HF : Hid (¬ ((2 ≤ n ∧ n ≤ 16 ∧ 0 ≤ l.getD 0 0 ∧ l.getD 0 0 ≤ 2 ∧ (2 ≤ l.getD 0 0 ∨ l.getD 1 0 ≤ 39)) ∧ ∀ j, j < n → 0 ≤ l.getD j 0 ∧ l.getD j 0 ≤ 2147483647) → Od.right l = false) := Lib.hid (fun h => by
    rw [← hiff] at h
    simpa using h)
  have HT := Lib.hid hiff.2
  clear hiff hall hn
  by_cases hlen : 2 ≤ n ∧ n ≤ 16
  · obtain ⟨h2, h16⟩ := hlen
    obtain ⟨rfl, _⟩ := ha (by omega)
    have c0 := hcell 0 (by omega)
    have c1 := hcell 1 (by omega)
    rw [Nat.add_zero] at c0
    have HC := Lib.hid hcell
    clear hcell ha
    generalize Od.right l = D at *
    generalize hx : l.getD 0 0 = x at *
    generalize hy : l.getD 1 0 = y at *
    clear hx hy
    by_cases hx0 : x < 0
    · have hD := HF.out (fun h => by have := h.1.2.2.1; omega)
      clear HF HT
      go_enter Tryd.func17, Tryd.ntmps17
      go_wp2
      go_ret
      exact ⟨retBo (by simp [hD]), rfl⟩
    by_cases hx2 : 2 < x
    · have hD := HF.out (fun h => by have := h.1.2.2.2.1; omega)
      clear HF HT
      go_enter Tryd.func17, Tryd.ntmps17
      go_wp2
      go_ret
      exact ⟨retBo (by simp), rfl⟩
    by_cases hx3 : x < 2 ∧ 39 < y
    · obtain ⟨hx3, hy3⟩ := hx3
      have hD := HF.out (fun h => by have := h.1.2.2.2.2; omega)
      clear HF HT
      go_enter Tryd.func17, Tryd.ntmps17
      go_wp2
      go_ret
      exact ⟨retBo (by simp), rfl⟩
    have HF2 : Hid (∀ j, j < n → ¬ (0 ≤ l.getD j 0 ∧ l.getD j 0 ≤ 2147483647) → D = false) := Lib.hid (fun j hj h => HF.out (fun k => h (k.2 j hj)))
    have HT2 : Hid ((∀ j, j < n → 0 ≤ l.getD j 0 ∧ l.getD j 0 ≤ 2147483647) → D = true) := Lib.hid (fun h => HT.out ⟨⟨h2, h16, by omega, by omega, by omega⟩, h⟩)
    clear HF HT
    have hcase : 2 ≤ x ∨ (x < 2 ∧ y ≤ 39) := by omega
    clear hx3
    rcases hcase with hcase | ⟨hca, hcb⟩
    · go_enter Tryd.func17, Tryd.ntmps17
      go_wp2
      go_loopw [39] (fun i wr => ∃ k : Nat, k ≤ n ∧ i = .int .i64 k ∧ wr = w ∧ ∀ j, j < k → 0 ≤ l.getD j 0 ∧ l.getD j 0 ≤ 2147483647) (fun i _ => n - (intOf i).toNat)
      case atStart => exact ⟨0, by omega, rfl, rfl, fun j hj => absurd hj (Nat.not_lt_zero _)⟩
      case round =>
        obtain ⟨k, hk, rfl, rfl, hA⟩ := hrel
        have HA := Lib.hid hA
        clear hA
        by_cases hkn : k < n
        · have hck := HC.out k hkn
          have HNx := Lib.hid (HF2.out k hkn)
          generalize hz : l.getD k 0 = z at *
          have HZ := Lib.hid hz
          clear hz
          by_cases hz0 : z < 0
          · have hD := HNx.out (by omega)
            go_wp2
            go_ret
            exact ⟨retBo (by simp [hD]), rfl⟩
          · by_cases hz1 : 2147483647 < z
            · have hD := HNx.out (by omega)
              go_wp2
              go_ret
              exact ⟨retBo (by simp), rfl⟩
            · have HZ2 : Hid (0 ≤ z ∧ z ≤ 2147483647) := Lib.hid (by omega)
              go_wp2
              go_roundw
              case rel => exact ⟨k + 1, by omega, by go_num, trivial, fun j hj => (by
                rcases Nat.lt_or_ge j k with h | h
                · exact HA.out j h
                · obtain rfl : j = k := by omega
                  rw [HZ.out]; exact HZ2.out)⟩
              case measure => simp [intOf]; omega
        · obtain rfl : k = n := by omega
          have hD := HT2.out HA.out
          go_wp2
          go_ret
          exact ⟨retBo (by simp [hD]), rfl⟩
    · go_enter Tryd.func17, Tryd.ntmps17
      go_wp2
      go_loopw [39] (fun i wr => ∃ k : Nat, k ≤ n ∧ i = .int .i64 k ∧ wr = w ∧ ∀ j, j < k → 0 ≤ l.getD j 0 ∧ l.getD j 0 ≤ 2147483647) (fun i _ => n - (intOf i).toNat)
      case atStart => exact ⟨0, by omega, rfl, rfl, fun j hj => absurd hj (Nat.not_lt_zero _)⟩
      case round =>
        obtain ⟨k, hk, rfl, rfl, hA⟩ := hrel
        have HA := Lib.hid hA
        clear hA
        by_cases hkn : k < n
        · have hck := HC.out k hkn
          have HNx := Lib.hid (HF2.out k hkn)
          generalize hz : l.getD k 0 = z at *
          have HZ := Lib.hid hz
          clear hz
          by_cases hz0 : z < 0
          · have hD := HNx.out (by omega)
            go_wp2
            go_ret
            exact ⟨retBo (by simp [hD]), rfl⟩
          · by_cases hz1 : 2147483647 < z
            · have hD := HNx.out (by omega)
              go_wp2
              go_ret
              exact ⟨retBo (by simp), rfl⟩
            · have HZ2 : Hid (0 ≤ z ∧ z ≤ 2147483647) := Lib.hid (by omega)
              go_wp2
              go_roundw
              case rel => exact ⟨k + 1, by omega, by go_num, trivial, fun j hj => (by
                rcases Nat.lt_or_ge j k with h | h
                · exact HA.out j h
                · obtain rfl : j = k := by omega
                  rw [HZ.out]; exact HZ2.out)⟩
              case measure => simp [intOf]; omega
        · obtain rfl : k = n := by omega
          have hD := HT2.out HA.out
          go_wp2
          go_ret
          exact ⟨retBo (by simp [hD]), rfl⟩
  · have hD := HF.out (fun h => hlen ⟨h.1.1, h.1.2.1⟩)
    clear hcell HF HT ha
    by_cases h2 : n < 2
    · go_enter Tryd.func17, Tryd.ntmps17
      go_wp2
      go_ret
      exact ⟨retBo (by simp), rfl⟩
    · have h16 : 16 < n := by omega
      clear hlen
      go_enter Tryd.func17, Tryd.ntmps17
      go_wp2
      go_ret
      exact ⟨retBo (by simp), rfl⟩
end Go.Proofs.YtpjhkmdlegjdaaaDoor
