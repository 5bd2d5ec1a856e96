/- Framed texts are the same only of the same words and parts, and none begins another one: of plain lists. -/
import Derived.Test.YtckdkcfhkakcfaaDoorMs4
namespace Go.Proofs.YtckdkcfhkakcfaaDoor

theorem be4_inj {a b : Nat} (ha : a < 4294967296) (hb : b < 4294967296) (h : be4 a = be4 b) : a = b := by
  simp only [be4, List.cons.injEq, and_true] at h
  omega
theorem be4_len (n : Nat) : (be4 n).length = 4 := rfl

theorem fbody_prefix : ∀ (A B : List (List Nat)) (R : List Nat), A.length = B.length → (∀ p ∈ A, p.length < 4294967296) → (∀ p ∈ B, p.length < 4294967296) → fbody A ++ R = fbody B → A = B ∧ R = []
  | [], [], R, _, _, _, h => ⟨rfl, by simpa [fbody] using h⟩
  | [], _ :: _, _, h, _, _, _ => by cases h
  | _ :: _, [], _, h, _, _, _ => by cases h
  | p :: A, q :: B, R, hl, hA, hB, h => by
    simp only [fbody, List.append_assoc] at h
    obtain ⟨h1, h2⟩ := List.append_inj h rfl
    have hpq := be4_inj (hA p (by simp)) (hB q (by simp)) h1
    obtain ⟨h3, h4⟩ := List.append_inj h2 hpq
    obtain ⟨h5, h6⟩ := fbody_prefix A B R (by simpa using hl) (fun x hx => hA x (by simp [hx])) (fun x hx => hB x (by simp [hx])) h4
    exact ⟨by rw [h3, h5], h6⟩

theorem frame_prefix {V W : List Nat} {A B : List (List Nat)} {R : List Nat} (hA : ∀ p ∈ A, p.length < 4294967296) (hB : ∀ p ∈ B, p.length < 4294967296) (h : frameOf V A ++ R = frameOf W B) : V = W ∧ A = B ∧ R = [] := by
  simp only [frameOf, fhead, List.cons_append, List.append_assoc, List.cons.injEq] at h
  obtain ⟨h1, h2⟩ := h
  obtain ⟨h3, h4⟩ := List.append_inj h2 h1
  simp only [List.nil_append, List.cons.injEq] at h4
  obtain ⟨h5, h6⟩ := fbody_prefix A B R h4.1 hA hB h4.2
  exact ⟨h3, h5, h6⟩

/-- The law's own test: the one is no longer than the other, and is its beginning. -/
theorem begins_iff {V W : List Nat} {A B : List (List Nat)} (hA : ∀ p ∈ A, p.length < 4294967296) (hB : ∀ p ∈ B, p.length < 4294967296) :
    ((frameOf V A).length ≤ (frameOf W B).length ∧ (frameOf W B).take (frameOf V A).length = frameOf V A) ↔ (V = W ∧ A = B) := by
  constructor
  · rintro ⟨_, h2⟩
    have : frameOf V A ++ (frameOf W B).drop (frameOf V A).length = frameOf W B := by
      conv => rhs; rw [← List.take_append_drop (frameOf V A).length (frameOf W B), h2]
    obtain ⟨h3, h4, _⟩ := frame_prefix hA hB this
    exact ⟨h3, h4⟩
  · rintro ⟨rfl, rfl⟩
    exact ⟨Nat.le_refl _, List.take_of_length_le (Nat.le_refl _)⟩

theorem parts_of_fErr {W : List Nat} {A : List (List Nat)} (h : fErr W A = 0) : (∀ p ∈ A, p.length ≤ 65536) ∧ A.length ≤ 16 ∧ W.length ≤ 32 := by
  unfold fErr at h
  cases hw : wordB W
  · rw [if_pos hw] at h; cases h
  · rw [if_neg (by rw [hw]; simp)] at h
    by_cases h1 : 16 < A.length
    · rw [if_pos h1] at h; cases h
    · rw [if_neg h1] at h
      by_cases h2 : ∃ p ∈ A, 65536 < p.length
      · rw [if_pos h2] at h; cases h
      · rw [wordB, Bool.and_eq_true, decide_eq_true_eq] at hw
        exact ⟨fun p hp => Nat.le_of_not_lt fun hh => h2 ⟨p, hp, hh⟩, by omega, by omega⟩
end Go.Proofs.YtckdkcfhkakcfaaDoor
