/- Named bits, pure: the row that the document's Flags writes, bit by bit. -/
import Derived.Test.YtbneggdfbkebcaaDoorPt1
import Derived.Test.YtbneggdfbkebcaaDoorAp
namespace Go.Proofs.YtbneggdfbkebcaaDoor
open Go.RowKit
namespace Pt
def rowL (u m i : Nat) : List Nat := [u, rev8 (m % 2 ^ i % 256), rev8 (m % 2 ^ i / 256)]
theorem rev8_step_fin : ∀ x : Fin 256, ∀ i : Fin 8, rev8 (x.val % 2 ^ (i.val + 1)) = rev8 (x.val % 2 ^ i.val) + (if x.val / 2 ^ i.val % 2 = 1 then 2 ^ (7 - i.val) else 0) := by decide +kernel
theorem bit_lo (m : Nat) : ∀ i, i < 8 → m % 256 / 2 ^ i % 2 = m / 2 ^ i % 2
  | 0, _ => by simp only [Nat.pow_zero]; omega
  | 1, _ => by show m % 256 / 2 % 2 = m / 2 % 2; omega
  | 2, _ => by show m % 256 / 4 % 2 = m / 4 % 2; omega
  | 3, _ => by show m % 256 / 8 % 2 = m / 8 % 2; omega
  | 4, _ => by show m % 256 / 16 % 2 = m / 16 % 2; omega
  | 5, _ => by show m % 256 / 32 % 2 = m / 32 % 2; omega
  | 6, _ => by show m % 256 / 64 % 2 = m / 64 % 2; omega
  | 7, _ => by show m % 256 / 128 % 2 = m / 128 % 2; omega
theorem lo_low (m : Nat) {i : Nat} (h : i ≤ 8) : m % 2 ^ i % 256 = m % 256 % 2 ^ i ∧ m % 2 ^ i / 256 = 0 := by
  have h1 : 2 ^ i ≤ 256 := Nat.pow_le_pow_right (n := 2) (by decide) h
  have h2 : 2 ^ i ∣ 256 := Nat.pow_dvd_pow 2 h
  have h3 : m % 2 ^ i < 2 ^ i := Nat.mod_lt _ (Nat.pow_pos (by decide))
  rw [Nat.mod_mod_of_dvd _ h2]
  exact ⟨Nat.mod_eq_of_lt (by omega), by omega⟩
theorem lo_high (m k : Nat) : m % 2 ^ (8 + k) % 256 = m % 256 ∧ m % 2 ^ (8 + k) / 256 = m / 256 % 2 ^ k := by
  have e : m % 2 ^ (8 + k) = m % 256 + 256 * (m / 256 % 2 ^ k) := by rw [Nat.pow_add, show (2 : Nat) ^ 8 = 256 from rfl, Nat.mod_mul]
  rw [e]
  omega
theorem bit_high (m k : Nat) : m / 2 ^ (8 + k) = m / 256 / 2 ^ k := by rw [Nat.pow_add, show (2 : Nat) ^ 8 = 256 from rfl, Nat.div_div_eq_div_mul]
theorem rev8_step {x i : Nat} (hx : x < 256) (hi : i < 8) : rev8 (x % 2 ^ (i + 1)) = rev8 (x % 2 ^ i) + (if x / 2 ^ i % 2 = 1 then 2 ^ (7 - i) else 0) := rev8_step_fin ⟨x, hx⟩ ⟨i, hi⟩
/-- One bit on. -/
theorem rowL_step (u : Nat) {m i : Nat} (hm : m < 32768) (hi : i < 15) : rowL u m (i + 1) = (rowL u m i).set (1 + i / 8) ((rowL u m i).getD (1 + i / 8) 0 + (if m / 2 ^ i % 2 = 1 then 2 ^ (7 - i % 8) else 0)) := by
  rcases Nat.lt_or_ge i 8 with h | h
  · have a := lo_low m (i := i) (by omega)
    have b := lo_low m (i := i + 1) (by omega)
    have c := rev8_step (x := m % 256) (Nat.mod_lt _ (by decide)) h
    rw [bit_lo m i h] at c
    rw [show i / 8 = 0 by omega, show i % 8 = i by omega]
    simp only [rowL, a.1, a.2, b.1, b.2, c, Nat.add_zero, List.getD_cons_succ, List.getD_cons_zero, List.set_cons_succ, List.set_cons_zero]
  · obtain ⟨k, rfl⟩ : ∃ k, i = 8 + k := ⟨i - 8, by omega⟩
    have a := lo_high m k
    have b := lo_high m (k + 1)
    have c := rev8_step (x := m / 256) (i := k) (by omega) (by omega)
    rw [← bit_high] at c
    rw [show (8 + k) / 8 = 1 by omega, show (8 + k) % 8 = k by omega, show 8 + k + 1 = 8 + (k + 1) by omega]
    simp only [rowL, a.1, a.2, b.1, b.2, c, List.getD_cons_succ, List.getD_cons_zero, List.set_cons_succ, List.set_cons_zero, show 1 + 1 = 2 from rfl]
theorem rowL_lt (u m i : Nat) (hu : u < 256) : ∀ j, (rowL u m i).getD j 0 < 256 := by
  have a := rev8_lt (m % 2 ^ i % 256)
  have b := rev8_lt (m % 2 ^ i / 256)
  intro j
  match j with
  | 0 => exact hu
  | 1 => exact a
  | 2 => exact b
  | n + 3 => exact Nat.zero_lt_succ _
theorem size_step (m i : Nat) : size (m % 2 ^ (i + 1)) = if m / 2 ^ i % 2 = 1 then i + 1 else size (m % 2 ^ i) := by
  have e : m % 2 ^ (i + 1) = m % 2 ^ i + 2 ^ i * (m / 2 ^ i % 2) := Nat.mod_pow_succ
  have h1 : m % 2 ^ i < 2 ^ i := Nat.mod_lt _ (Nat.pow_pos (by decide))
  have h2 : 2 ^ (i + 1) = 2 ^ i * 2 := Nat.pow_succ ..
  split
  · rename_i h
    rw [h, Nat.mul_one] at e
    exact size_is (by omega) (by omega)
  · rename_i h
    rw [show m / 2 ^ i % 2 = 0 by omega, Nat.mul_zero] at e
    rw [e]
    rfl
theorem size_15 {m : Nat} (hm : m < 32768) : size m ≤ 15 := size_le_of (k := 15) hm
/-- How long a mask's body is. -/
theorem flags_take {m : Nat} (hm : m < 32768) : (rowL (8 * ((size m + 7) / 8) - size m) m (size m)).take (1 + (size m + 7) / 8) = flags m := by
  have a := size_lt m
  have hm2 : m % 2 ^ size m = m := Nat.mod_eq_of_lt a
  rw [rowL, hm2]
  unfold flags
  by_cases h0 : m = 0
  · rw [if_pos h0, h0]; rfl
  · rw [if_neg h0]
    have c := size_pos h0
    by_cases h1 : m < 256
    · have d : size m ≤ 8 := size_le_of (k := 8) h1
      rw [if_pos h1, show (size m + 7) / 8 = 1 by omega, Nat.mod_eq_of_lt h1]
      rfl
    · have d : size m ≤ 16 := size_le_of (k := 16) (by omega)
      have e : 9 ≤ size m := by
        have : 8 < size m := (Nat.pow_lt_pow_iff_right (a := 2) (by decide)).1 (by omega)
        omega
      rw [if_neg h1, show (size m + 7) / 8 = 2 by omega]
      rfl
end Pt
end Go.Proofs.YtbneggdfbkebcaaDoor
