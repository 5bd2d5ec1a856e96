/- Named bits, pure: a mask's body, the mask of a body. It names no program. -/
import Derived.Lib.Hide
namespace Go.Proofs.YtbneggdfbkebcaaDoor
set_option linter.unusedVariables false
namespace Pt
/-- Eight bits the other way round. -/
def rev8 (x : Nat) : Nat := x / 128 % 2 + x / 64 % 2 * 2 + x / 32 % 2 * 4 + x / 16 % 2 * 8 + x / 8 % 2 * 16 + x / 4 % 2 * 32 + x / 2 % 2 * 64 + x % 2 * 128
theorem rev8_lt (x : Nat) : rev8 x < 256 := by unfold rev8; omega
theorem rev8_fin : ∀ x : Fin 256, rev8 (rev8 x.val) = x.val := by decide +kernel
theorem rev8_rev8 {x : Nat} (h : x < 256) : rev8 (rev8 x) = x := rev8_fin ⟨x, h⟩
theorem rev8_bit_fin : ∀ x : Fin 256, ∀ t : Fin 8, x.val / 2 ^ (7 - t.val) % 2 = rev8 x.val / 2 ^ t.val % 2 := by decide +kernel
theorem rev8_bit {x t : Nat} (h : x < 256) (ht : t < 8) : x / 2 ^ (7 - t) % 2 = rev8 x / 2 ^ t % 2 := rev8_bit_fin ⟨x, h⟩ ⟨t, ht⟩
/-- How many bits a number has. -/
def size (n : Nat) : Nat := if n = 0 then 0 else n.log2 + 1
theorem size_lt (n : Nat) : n < 2 ^ size n := by
  unfold size
  split
  · subst_vars; decide
  · exact Nat.lt_log2_self
theorem size_le {n : Nat} (h : n ≠ 0) : 2 ^ (size n - 1) ≤ n := by
  unfold size
  rw [if_neg h, Nat.add_sub_cancel]
  exact Nat.log2_self_le h
theorem size_pos {n : Nat} (h : n ≠ 0) : 0 < size n := by unfold size; rw [if_neg h]; exact Nat.succ_pos _
theorem size_is {n k : Nat} (h1 : 2 ^ k ≤ n) (h2 : n < 2 ^ (k + 1)) : size n = k + 1 := by
  have hn : n ≠ 0 := by have := Nat.pow_pos (n := k) (show 0 < 2 by decide); omega
  have a := size_lt n
  have b := size_le hn
  have c := size_pos hn
  have d : k < size n := (Nat.pow_lt_pow_iff_right (by decide)).1 (Nat.lt_of_le_of_lt h1 a)
  have e : size n - 1 < k + 1 := (Nat.pow_lt_pow_iff_right (by decide)).1 (Nat.lt_of_le_of_lt b h2)
  omega
theorem size_le_of {n k : Nat} (h : n < 2 ^ k) : size n ≤ k := by
  rcases Nat.eq_zero_or_pos n with h0 | h0
  · subst h0; simp [size]
  · have := size_le (n := n) (by omega)
    have : size n - 1 < k := (Nat.pow_lt_pow_iff_right (by decide)).1 (Nat.lt_of_le_of_lt this h)
    omega
/-- A mask's body. -/
def flags (m : Nat) : List Nat := if m = 0 then [0] else if m < 256 then [8 - size m, rev8 m] else [16 - size m, rev8 (m % 256), rev8 (m / 256)]
/-- The mask of a body; the error's number. -/
def mask : List Nat → Except Nat Nat
  | [] => .error 2
  | [u] => if u = 0 then .ok 0 else .error 4
  | [u, x] => if u ≤ 7 ∧ 2 ^ (7 - u) ≤ rev8 x ∧ rev8 x < 2 ^ (8 - u) then .ok (rev8 x) else .error 4
  | [u, x, y] => if u ≤ 7 ∧ 2 ^ (15 - u) ≤ rev8 x + 256 * rev8 y ∧ rev8 x + 256 * rev8 y < 2 ^ (16 - u) then (if rev8 x + 256 * rev8 y < 32768 then .ok (rev8 x + 256 * rev8 y) else .error 1) else .error 4
  | _ => .error 4
theorem flags_lt (m : Nat) (hm : m < 32768) : ∀ x ∈ flags m, x < 256 := by
  intro x hx
  unfold flags at hx
  have := rev8_lt m; have := rev8_lt (m % 256); have := rev8_lt (m / 256)
  split at hx
  · simp at hx; omega
  · split at hx
    · simp at hx; omega
    · simp at hx; omega
theorem flags_len (m : Nat) : (flags m).length ≤ 3 := by unfold flags; split; simp; split <;> simp
/-- A mask's body tells it. -/
theorem mask_flags {m : Nat} (hm : m < 32768) : mask (flags m) = .ok m := by
  unfold flags
  by_cases h0 : m = 0
  · rw [if_pos h0, h0]; rfl
  · rw [if_neg h0]
    have a := size_lt m
    have b := size_le h0
    have c := size_pos h0
    by_cases h1 : m < 256
    · have d : size m ≤ 8 := size_le_of (k := 8) h1
      rw [if_pos h1, mask, rev8_rev8 h1, if_pos]
      refine ⟨by omega, ?_, ?_⟩
      · rw [show 7 - (8 - size m) = size m - 1 by omega]; exact b
      · rw [show 8 - (8 - size m) = size m by omega]; exact a
    · have d : size m ≤ 16 := size_le_of (k := 16) (by omega)
      have e : 9 ≤ size m := by
        have : 8 < size m := (Nat.pow_lt_pow_iff_right (a := 2) (by decide)).1 (by omega)
        omega
      rw [if_neg h1, mask, rev8_rev8 (by omega), rev8_rev8 (by omega)]
      have f : m % 256 + 256 * (m / 256) = m := by omega
      rw [f, if_pos, if_pos hm]
      refine ⟨by omega, ?_, ?_⟩
      · rw [show 15 - (16 - size m) = size m - 1 by omega]; exact b
      · rw [show 16 - (16 - size m) = size m by omega]; exact a
/-- A mask has no other body. -/
theorem flags_mask {b : List Nat} {m : Nat} (h8 : ∀ x ∈ b, x < 256) (h : mask b = .ok m) : flags m = b ∧ m < 32768 := by
  match b, h8, h with
  | [u], _, h =>
    rw [mask] at h
    split at h
    · rename_i hu; cases h; subst hu; exact ⟨rfl, by decide⟩
    · cases h
  | [u, x], h8, h =>
    rw [mask] at h
    split at h
    · rename_i hu
      cases h
      obtain ⟨h1, h2, h3⟩ := hu
      have hx : x < 256 := h8 x (by simp)
      have hr := rev8_lt x
      have hs := size_is h2 (by rw [show 7 - u + 1 = 8 - u by omega]; exact h3)
      have hp : 0 < 2 ^ (7 - u) := Nat.pow_pos (by decide)
      refine ⟨?_, by omega⟩
      rw [flags, if_neg (by omega), if_pos hr, rev8_rev8 hx, hs, show 8 - (7 - u + 1) = u by omega]
    · cases h
  | [u, x, y], h8, h =>
    rw [mask] at h
    split at h
    · rename_i hu
      split at h
      · rename_i hlt
        cases h
        obtain ⟨h1, h2, h3⟩ := hu
        have hx : x < 256 := h8 x (by simp)
        have hy : y < 256 := h8 y (by simp)
        have hr := rev8_lt x
        have hr2 := rev8_lt y
        have hs := size_is h2 (by rw [show 15 - u + 1 = 16 - u by omega]; exact h3)
        have hp : 2 ^ 8 ≤ 2 ^ (15 - u) := Nat.pow_le_pow_right (by decide) (by omega)
        refine ⟨?_, hlt⟩
        rw [flags, if_neg (by omega), if_neg (by omega), hs, show 16 - (15 - u + 1) = u by omega, show (rev8 x + 256 * rev8 y) % 256 = rev8 x by omega, show (rev8 x + 256 * rev8 y) / 256 = rev8 y by omega, rev8_rev8 hx, rev8_rev8 hy]
      · cases h
    · cases h
  | _ :: _ :: _ :: _ :: _, _, h => rw [mask] at h; cases h; all_goals simp
end Pt
end Go.Proofs.YtbneggdfbkebcaaDoor
