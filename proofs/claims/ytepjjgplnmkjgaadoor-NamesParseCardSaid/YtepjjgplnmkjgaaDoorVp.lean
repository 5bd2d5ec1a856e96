/- Texts, pure: the library's 'valid' and the model's runes against plain texts. It names no program. -/
import Derived.Lib.TrimUEq
import Derived.Lib.ValidLaws
import Derived.Test.YtepjjgplnmkjgaaDoorPt0
namespace Go.Proofs.YtepjjgplnmkjgaaDoor
namespace Pt
/-- Bytes as numbers. -/
def nums (l : List UInt8) : List Nat := l.map (·.toNat)
theorem nums_len (l : List UInt8) : (nums l).length = l.length := by rw [nums, List.length_map]
theorem nums_at (l : List UInt8) (i : Nat) : (nums l).getD i 0 = (l.getD i 0).toNat := by
  rw [List.getD_eq_getElem?_getD, List.getD_eq_getElem?_getD, nums, List.getElem?_map]
  cases l[i]? <;> rfl
theorem nums_lt (l : List UInt8) : ∀ x ∈ nums l, x < 256 := by
  intro x hx
  obtain ⟨b, _, rfl⟩ := List.mem_map.1 hx
  exact b.toNat_lt
theorem nums_drop (l : List UInt8) (k : Nat) : (nums l).drop k = nums (l.drop k) := by rw [nums, nums, List.map_drop]
theorem step_decode (l : List UInt8) : step (nums l) = if Lib.decodeL l = (65533, 1) then none else if (Lib.decodeL l).1 < 32 ∨ (Lib.decodeL l).1 = 127 then none else some (Lib.decodeL l).2 := by
  rw [step, nums_at, nums_at, nums_at, nums_at, nums_len, Lib.decodeL_N]
/-- One rune on, by the model's own decoder. -/
theorem plain_decode (l : List UInt8) (hne : l ≠ []) (hv : Lib.validD l = true) :
    plain (nums l) = (if (Lib.decodeL l).1 < 32 ∨ (Lib.decodeL l).1 = 127 then false else plain (nums (l.drop (Lib.decodeL l).2))) ∧ Lib.validD (l.drop (Lib.decodeL l).2) = true := by
  rw [Lib.validD_step l hne] at hv
  split at hv
  · cases hv
  · rename_i hb
    have hb2 : Lib.decodeL l ≠ (65533, 1) := fun e => hb (by rw [e]; exact ⟨rfl, rfl⟩)
    refine ⟨?_, hv⟩
    rw [plain_step (nums_lt l) (by intro e; exact hne (List.map_eq_nil_iff.1 e)), step_decode, if_neg hb2]
    by_cases hc : (Lib.decodeL l).1 < 32 ∨ (Lib.decodeL l).1 = 127
    · rw [if_pos hc, if_pos hc]
    · rw [if_neg hc, if_neg hc]
      show plain ((nums l).drop _) = _
      rw [nums_drop]
theorem plain_invalidF : ∀ (n : Nat) (l : List UInt8), l.length ≤ n → Lib.validD l = false → plain (nums l) = false
  | 0, l, hn, hv => by
    obtain rfl := List.eq_nil_of_length_eq_zero (Nat.le_zero.1 hn)
    rw [Lib.validD_nil] at hv
    cases hv
  | n + 1, l, hn, hv => by
    by_cases hne : l = []
    · subst hne; rw [Lib.validD_nil] at hv; cases hv
    · rw [Lib.validD_step l hne] at hv
      rw [plain_step (nums_lt l) (by intro e; exact hne (List.map_eq_nil_iff.1 e)), step_decode]
      split at hv
      · rename_i hb
        rw [if_pos (Prod.ext hb.1 hb.2)]
      · rename_i hb
        have hb2 : Lib.decodeL l ≠ (65533, 1) := fun e => hb (by rw [e]; exact ⟨rfl, rfl⟩)
        rw [if_neg hb2]
        by_cases hc : (Lib.decodeL l).1 < 32 ∨ (Lib.decodeL l).1 = 127
        · rw [if_pos hc]
        · rw [if_neg hc]
          show plain ((nums l).drop _) = _
          rw [nums_drop]
          have hw := Lib.decodeL_width l
          have hp := List.length_pos_iff.2 hne
          exact plain_invalidF n _ (by rw [List.length_drop]; omega) hv
theorem plain_invalid (l : List UInt8) (hv : Lib.validD l = false) : plain (nums l) = false := plain_invalidF l.length l (Nat.le_refl _) hv
/-- Labels, by the model's own decoder: all runes are bytes. -/
theorem allok_decode (l : List UInt8) (hne : l ≠ []) : (nums l).all okc = (okc (Lib.decodeL l).1 && (nums (l.drop (Lib.decodeL l).2)).all okc) := by
  match l, hne with
  | b :: t, _ =>
    by_cases hb : b.toNat < 128
    · rw [Lib.decodeL_ascii b t hb]
      simp [nums]
    · have h1 : okc b.toNat = false := by simp [okc]; omega
      have h2 : okc (Lib.decodeL (b :: t)).1 = false := by
        rw [Lib.decodeL_N]
        have h0 : ((b :: t).getD 0 0).toNat = b.toNat := rfl
        rw [h0]
        have hlt := b.toNat_lt
        generalize b.toNat = x at *
        generalize ((b :: t).getD 1 0).toNat = y
        generalize ((b :: t).getD 2 0).toNat = z
        generalize ((b :: t).getD 3 0).toNat = u
        generalize (b :: t).length = n
        have : 128 ≤ (Lib.decodeN n x y z u).1 := by
          unfold Lib.decodeN
          repeat' split
          all_goals (simp only; omega)
        simp [okc]; omega
      rw [h2]
      simp [nums, h1]
end Pt
end Go.Proofs.YtepjjgplnmkjgaaDoor
