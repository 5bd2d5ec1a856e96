/- The padding, and the digest of a text. Plain mathematics. -/
import Derived.Test.YtckdkcfhkakcfaaDoorShaR
namespace Go.Proofs.YtckdkcfhkakcfaaDoor
namespace Sha

def be8N (v : Nat) : Nat → List Nat
  | 0 => []
  | n + 1 => be8N v n ++ [v / 2 ^ (56 - 8 * n) % 256]
def nz (n : Nat) : Nat := (119 - n % 64) % 64
def pad (n : Nat) : List Nat := (128 :: List.replicate (nz n) 0) ++ be8N (8 * n) 8
theorem be8N_len (v : Nat) : ∀ n, (be8N v n).length = n
  | 0 => rfl
  | n + 1 => by simp [be8N, be8N_len v n]
theorem be8N_lt (v : Nat) : ∀ n, ∀ x ∈ be8N v n, x < 256
  | 0 => by simp [be8N]
  | n + 1 => by
    intro x hx
    simp only [be8N, List.mem_append, List.mem_singleton] at hx
    rcases hx with hx | rfl
    · exact be8N_lt v n x hx
    · exact Nat.mod_lt _ (by decide)
theorem pad_len (n : Nat) : (pad n).length = 9 + nz n := by simp [pad, be8N_len]; omega
theorem pad_lt (n : Nat) : ∀ x ∈ pad n, x < 256 := by
  intro x hx
  simp only [pad, List.mem_append, List.mem_cons, List.mem_replicate] at hx
  rcases hx with (rfl | ⟨_, rfl⟩) | hx
  · decide
  · decide
  · exact be8N_lt _ _ x hx
theorem nz_le (n : Nat) : nz n < 64 := Nat.mod_lt _ (by decide)
theorem padded_mod (n : Nat) : (n + (9 + nz n)) % 64 = 0 := by unfold nz; omega

/-- The digest of a text. -/
def sum (M : List Nat) : List Nat := dig (chainW (M ++ pad M.length) ((M.length + (9 + nz M.length)) / 64))

theorem Rep.sum {s : HS} {M : List Nat} (h : Rep s (M ++ pad M.length)) : dig s.words = sum M := by
  have h1 := h.len
  rw [List.length_append, pad_len] at h1
  have h2 := padded_mod M.length
  have h3 := h.filled
  have h4 : s.blocks = (M.length + (9 + nz M.length)) / 64 := by omega
  have h5 : s.blocks ≠ 0 := by omega
  have h6 := h.base
  unfold HS.base at h6
  rw [if_neg h5] at h6
  rw [h6]; unfold Sha.sum
  rw [h4]
theorem sum_len (M : List Nat) : (sum M).length = 32 := digN_len _ _
end Sha
end Go.Proofs.YtckdkcfhkakcfaaDoor
