/- Moments' bodies: figures of dates, their order, reading them. It names no program. -/
import Derived.Test.YtepjjgplnmkjgaaDoorCa0
namespace Go.Proofs.YtepjjgplnmkjgaaDoor
set_option linter.unusedVariables false
namespace Cal
def two (n : Nat) : List Nat := [48 + n / 10, 48 + n % 10]
/-- A date's body. -/
def text (d : Date) : List Nat := two (d.Y / 100) ++ (two (d.Y % 100) ++ (two d.M ++ (two d.D ++ (two d.h ++ (two d.mi ++ (two d.s ++ [90]))))))
def lex : List Nat → List Nat → Bool
  | [], [] => false
  | [], _ :: _ => true
  | _ :: _, [] => false
  | x :: r, y :: s => if x = y then lex r s else decide (x < y)
theorem lex_two (a b : Nat) (x y : List Nat) (ha : a < 100) (hb : b < 100) : lex (two a ++ x) (two b ++ y) = if a = b then lex x y else decide (a < b) := by
  simp only [two, List.cons_append, List.nil_append, lex]
  by_cases h : a = b
  · subst h; simp
  · rw [if_neg h]
    by_cases h1 : 48 + a / 10 = 48 + b / 10
    · rw [if_pos h1, if_neg (by omega), decide_eq_decide]
      omega
    · rw [if_neg h1, decide_eq_decide]
      omega
theorem text_len (d : Date) : (text d).length = 15 := rfl
/-- Later dates have later bodies, byte by byte. -/
theorem text_lt {a b : Date} (ha : Right a) (hb : Right b) : lex (text a) (text b) = true ↔ lt a b := by
  obtain ⟨⟨a1, a2⟩, ⟨a3, a4⟩, ⟨a5, a6⟩, a7, a8, a9⟩ := ha
  obtain ⟨⟨b1, b2⟩, ⟨b3, b4⟩, ⟨b5, b6⟩, b7, b8, b9⟩ := hb
  have a10 := (days_pos (y := a.Y) a3 a4).2
  have b10 := (days_pos (y := b.Y) b3 b4).2
  unfold text
  rw [lex_two _ _ _ _ (by omega) (by omega), lex_two _ _ _ _ (by omega) (by omega), lex_two _ _ _ _ (by omega) (by omega), lex_two _ _ _ _ (by omega) (by omega), lex_two _ _ _ _ (by omega) (by omega), lex_two _ _ _ _ (by omega) (by omega), lex_two _ _ _ _ (by omega) (by omega)]
  rw [show lex [90] [90] = false from rfl]
  unfold lt clock
  by_cases c1 : a.Y / 100 = b.Y / 100
  · rw [if_pos c1]
    by_cases c2 : a.Y % 100 = b.Y % 100
    · rw [if_pos c2]
      by_cases c3 : a.M = b.M
      · rw [if_pos c3]
        by_cases c4 : a.D = b.D
        · rw [if_pos c4]
          by_cases c5 : a.h = b.h
          · rw [if_pos c5]
            by_cases c6 : a.mi = b.mi
            · rw [if_pos c6]
              by_cases c7 : a.s = b.s
              · rw [if_pos c7]; exact ⟨fun h => by simp at h, fun h => by omega⟩
              · rw [if_neg c7, decide_eq_true_iff]; omega
            · rw [if_neg c6, decide_eq_true_iff]; omega
          · rw [if_neg c5, decide_eq_true_iff]; omega
        · rw [if_neg c4, decide_eq_true_iff]; omega
      · rw [if_neg c3, decide_eq_true_iff]; omega
    · rw [if_neg c2, decide_eq_true_iff]; omega
  · rw [if_neg c1, decide_eq_true_iff]; omega
/-- Later moments have later bodies. -/
theorem body_lt {t u : Nat} (ht : t ≤ 253402300799) (hu : u ≤ 253402300799) : lex (text (of t)) (text (of u)) = decide (t < u) := by
  obtain ⟨t1, t2⟩ := of_right ht
  obtain ⟨u1, u2⟩ := of_right hu
  rw [Bool.eq_iff_iff, text_lt t1 u1, decide_eq_true_iff, ← sec_lt_iff t1 u1, t2, u2]

def fig (c : Nat) : Bool := decide (48 ≤ c) && decide (c ≤ 57)
def num2 (l : List Nat) (i : Nat) : Nat := (l.getD i 0 - 48) * 10 + (l.getD (i + 1) 0 - 48)
/-- What fourteen figures say. -/
def dateOf (l : List Nat) : Date := ⟨num2 l 0 * 100 + num2 l 2, num2 l 4, num2 l 6, num2 l 8, num2 l 10, num2 l 12⟩
instance (d : Date) : Decidable (Right d) := by unfold Right; infer_instance
/-- What Get answers: the moment, the error's number. -/
def get (l : List Nat) : Except Nat Nat :=
  if l.length ≠ 15 ∨ l.getD 14 0 ≠ 90 ∨ (l.take 14).all fig = false then .error 4 else if Right (dateOf l) then .ok (sec (dateOf l)) else .error 1
theorem dateOf_text {d : Date} (h : Right d) : dateOf (text d) = d ∧ ((text d).take 14).all fig = true := by
  obtain ⟨⟨a1, a2⟩, ⟨a3, a4⟩, ⟨a5, a6⟩, a7, a8, a9⟩ := h
  have a10 := (days_pos (y := d.Y) a3 a4).2
  have e : text d = [48 + d.Y / 100 / 10, 48 + d.Y / 100 % 10, 48 + d.Y % 100 / 10, 48 + d.Y % 100 % 10, 48 + d.M / 10, 48 + d.M % 10, 48 + d.D / 10, 48 + d.D % 10, 48 + d.h / 10, 48 + d.h % 10, 48 + d.mi / 10, 48 + d.mi % 10, 48 + d.s / 10, 48 + d.s % 10, 90] := rfl
  constructor
  · obtain ⟨Y, M, D, h, mi, s⟩ := d
    simp only at a1 a2 a3 a4 a7 a8 a9 a10 a6
    rw [e]
    simp only [dateOf, num2, List.getD_cons_zero, List.getD_cons_succ]
    congr 1 <;> omega
  · rw [e]
    simp only [List.take_succ_cons, List.take_zero, List.all_cons, List.all_nil, fig, Bool.and_eq_true, decide_eq_true_eq, Bool.and_true]
    omega
theorem get_text {d : Date} (h : Right d) : get (text d) = .ok (sec d) := by
  obtain ⟨h1, h2⟩ := dateOf_text h
  rw [get, if_neg, h1, if_pos h]
  rw [h2]
  simp [text_len]
  rfl
end Cal
end Go.Proofs.YtepjjgplnmkjgaaDoor
