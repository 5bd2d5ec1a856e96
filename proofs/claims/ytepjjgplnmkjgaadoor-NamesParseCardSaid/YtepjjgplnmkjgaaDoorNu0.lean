/- Subjects, pure: their words, which are right, their texts, their order. -/
import Derived.Test.YtepjjgplnmkjgaaDoorCa2
import Derived.Test.YtepjjgplnmkjgaaDoorCi
import Derived.Test.YtepjjgplnmkjgaaDoorPt0
import Derived.Test.YtepjjgplnmkjgaaDoorPt2
namespace Go.Proofs.YtepjjgplnmkjgaaDoor
open Go.RowKit
namespace Na

/-- A subject: its kind, its namespace, its name. -/
structure Sb where
  k : Int
  sp : ByteArray
  nm : ByteArray
def val (s : Sb) : Value := .agg #[.int .i64 s.k, .string s.sp, .string s.nm]
def word (k : Int) : ByteArray := if k = 1 then ⟨#[110, 111, 100, 101]⟩ else if k = 2 then ⟨#[119, 111, 114, 107, 108, 111, 97, 100]⟩ else if k = 3 then ⟨#[111, 112, 101, 114, 97, 116, 111, 114]⟩ else if k = 4 then ⟨#[98, 111, 111, 116]⟩ else if k = 5 then ⟨#[99, 97]⟩ else ⟨#[]⟩
def right (s : Sb) : Bool := decide (1 ≤ s.k ∧ s.k ≤ 5) && (Pt.label (strL s.nm) && (if s.k = 2 then Pt.label (strL s.sp) else decide (s.sp = ⟨#[]⟩)))
def cmpS (a b : ByteArray) : Int := if Cal.lex (strL a) (strL b) = true then -1 else if Cal.lex (strL b) (strL a) = true then 1 else 0
def cmp (a b : Sb) : Int := if cmpI a.k b.k ≠ 0 then cmpI a.k b.k else if cmpS a.sp b.sp ≠ 0 then cmpS a.sp b.sp else cmpS a.nm b.nm

theorem strL_eq {a b : ByteArray} (h : strL a = strL b) : a = b := by
  have h1 := strOf_strL a
  rw [h, strOf_strL] at h1
  exact h1.symm
theorem cmpI_zero {x y : Int} : cmpI x y = 0 ↔ x = y := by
  unfold cmpI
  split
  · constructor <;> intro h <;> omega
  · split
    · constructor <;> intro h <;> omega
    · constructor <;> intro h <;> omega
theorem cmpI_neg (x y : Int) : cmpI y x = - cmpI x y := by
  unfold cmpI
  repeat' split
  all_goals omega
theorem cmpI_cases (x y : Int) : cmpI x y = -1 ∨ cmpI x y = 0 ∨ cmpI x y = 1 := by
  unfold cmpI
  repeat' split
  all_goals simp
theorem cmpI_trans {x y z : Int} (h1 : cmpI x y ≤ 0) (h2 : cmpI y z ≤ 0) : cmpI x z ≤ 0 ∧ (cmpI x z = 0 → cmpI x y = 0 ∧ cmpI y z = 0) := by
  unfold cmpI at *
  split at h1
  all_goals split at h2
  all_goals simp_all
  all_goals (repeat' split)
  all_goals omega
theorem cmpS_zero {a b : ByteArray} : cmpS a b = 0 ↔ a = b := by
  unfold cmpS
  constructor
  · intro h
    split at h
    · exact absurd h (by decide)
    · split at h
      · exact absurd h (by decide)
      · rename_i h1 h2
        rcases Pt.lex_tri (strL a) (strL b) with h3 | h3 | h3
        · exact absurd h3 h1
        · exact strL_eq h3
        · exact absurd h3 h2
  · intro h
    subst h
    rw [Pt.lex_irr]
    rfl
theorem lex_asymm {a b : List Nat} (h : Cal.lex a b = true) : Cal.lex b a = false := by
  cases h2 : Cal.lex b a with
  | false => rfl
  | true =>
    have := Pt.lex_trans _ _ _ h h2
    rw [Pt.lex_irr] at this
    exact absurd this (by decide)
theorem cmpS_neg (a b : ByteArray) : cmpS b a = - cmpS a b := by
  unfold cmpS
  by_cases h1 : Cal.lex (strL a) (strL b) = true
  · rw [if_pos h1, if_neg (by rw [lex_asymm h1]; decide), if_pos h1]; rfl
  · rw [if_neg h1]
    by_cases h2 : Cal.lex (strL b) (strL a) = true
    · rw [if_pos h2, if_neg h1, if_pos h2]
    · rw [if_neg h2, if_neg h1, if_neg h2]; rfl
theorem cmpS_cases (a b : ByteArray) : cmpS a b = -1 ∨ cmpS a b = 0 ∨ cmpS a b = 1 := by
  unfold cmpS
  repeat' split
  all_goals simp
theorem cmpS_lt {a b : ByteArray} : cmpS a b = -1 ↔ Cal.lex (strL a) (strL b) = true := by
  unfold cmpS
  split
  · rename_i h; simp [h]
  · rename_i h
    split
    · simp [h]
    · simp [h]
theorem cmpS_trans {a b c : ByteArray} (h1 : cmpS a b ≤ 0) (h2 : cmpS b c ≤ 0) : cmpS a c ≤ 0 ∧ (cmpS a c = 0 → cmpS a b = 0 ∧ cmpS b c = 0) := by
  rcases cmpS_cases a b with e1 | e1 | e1
  · rcases cmpS_cases b c with e2 | e2 | e2
    · have := Pt.lex_trans _ _ _ (cmpS_lt.1 e1) (cmpS_lt.1 e2)
      rw [← cmpS_lt] at this
      omega
    · rw [cmpS_zero] at e2; subst e2; rw [cmpS_zero.2 rfl]; omega
    · omega
  · rw [cmpS_zero] at e1; subst e1; rw [cmpS_zero.2 rfl]; exact ⟨h2, fun h => ⟨rfl, h⟩⟩
  · omega
theorem cmp_zero {a b : Sb} : cmp a b = 0 ↔ a = b := by
  obtain ⟨k, s, n⟩ := a
  obtain ⟨k', s', n'⟩ := b
  unfold cmp
  simp only [Sb.mk.injEq]
  by_cases e1 : cmpI k k' = 0
  · rw [if_neg (by simpa using e1)]
    have e1' := cmpI_zero.1 e1
    by_cases e2 : cmpS s s' = 0
    · rw [if_neg (by simpa using e2), cmpS_zero]
      have e2' := cmpS_zero.1 e2
      simp [e1', e2']
    · rw [if_pos e2]
      have e2' : s ≠ s' := fun h => e2 (cmpS_zero.2 h)
      simp [e2, e2']
  · rw [if_pos e1]
    have e1' : k ≠ k' := fun h => e1 (cmpI_zero.2 h)
    simp [e1, e1']
theorem cmp_cases (a b : Sb) : cmp a b = -1 ∨ cmp a b = 0 ∨ cmp a b = 1 := by
  unfold cmp
  split
  · exact cmpI_cases _ _
  · split
    · exact cmpS_cases _ _
    · exact cmpS_cases _ _
theorem cmp_neg (a b : Sb) : cmp b a = - cmp a b := by
  unfold cmp
  rw [cmpI_neg a.k b.k, cmpS_neg a.sp b.sp, cmpS_neg a.nm b.nm]
  repeat' split
  all_goals omega
theorem cmp_trans {a b c : Sb} (h1 : cmp a b ≤ 0) (h2 : cmp b c ≤ 0) : cmp a c ≤ 0 := by
  unfold cmp at *
  have hk := @cmpI_trans a.k b.k c.k
  have hs := @cmpS_trans a.sp b.sp c.sp
  have hn := @cmpS_trans a.nm b.nm c.nm
  have k1 := cmpI_cases a.k b.k
  have k2 := cmpI_cases b.k c.k
  have s1 := cmpS_cases a.sp b.sp
  have s2 := cmpS_cases b.sp c.sp
  have k0 : cmpI a.k b.k = 0 → cmpI b.k c.k = 0 → cmpI a.k c.k = 0 := by rw [cmpI_zero, cmpI_zero, cmpI_zero]; exact fun h h' => h.trans h'
  have s0 : cmpS a.sp b.sp = 0 → cmpS b.sp c.sp = 0 → cmpS a.sp c.sp = 0 := by rw [cmpS_zero, cmpS_zero, cmpS_zero]; exact fun h h' => h.trans h'
  generalize cmpI a.k b.k = x1 at *
  generalize cmpI b.k c.k = x2 at *
  generalize cmpI a.k c.k = x3 at *
  generalize cmpS a.sp b.sp = y1 at *
  generalize cmpS b.sp c.sp = y2 at *
  generalize cmpS a.sp c.sp = y3 at *
  by_cases e1 : x1 = 0
  · by_cases e2 : x2 = 0
    · have e3 := k0 e1 e2
      rw [if_neg (by omega)] at h1 h2
      rw [if_neg (by omega)]
      by_cases f1 : y1 = 0
      · by_cases f2 : y2 = 0
        · have f3 := s0 f1 f2
          rw [if_neg (by omega)] at h1 h2
          rw [if_neg (by omega)]
          exact (hn h1 h2).1
        · rw [if_neg (by omega)] at h1
          rw [if_pos f2] at h2
          have := hs (by omega) h2
          split <;> omega
      · rw [if_pos f1] at h1
        by_cases f2 : y2 = 0
        · have := hs h1 (by omega)
          split <;> omega
        · rw [if_pos f2] at h2
          have := hs h1 h2
          split <;> omega
    · rw [if_pos e2] at h2
      have := hk (by omega) h2
      split <;> omega
  · rw [if_pos e1] at h1
    by_cases e2 : x2 = 0
    · have := hk h1 (by omega)
      split <;> omega
    · rw [if_pos e2] at h2
      have := hk h1 h2
      split <;> omega
theorem toList_inj {a b : ByteArray} (h : a.toList = b.toList) : a = b := by
  rw [ByteArray.toList_eq, ByteArray.toList_eq] at h
  obtain ⟨a⟩ := a
  obtain ⟨b⟩ := b
  exact congrArg ByteArray.mk (Array.toList_inj.1 h)
theorem eq_str (x y : ByteArray) : (x.toList == y.toList) = decide (cmpS x y = 0) := by
  rw [Bool.eq_iff_iff, beq_iff_eq, decide_eq_true_eq, cmpS_zero]
  exact ⟨toList_inj, fun h => by rw [h]⟩
theorem less_str (x y : ByteArray) : Op.bytesLess x.toList y.toList = decide (cmpS x y = -1) := by
  rw [str_less, Bool.eq_iff_iff, decide_eq_true_eq, cmpS_lt]
end Na
end Go.Proofs.YtepjjgplnmkjgaaDoor
