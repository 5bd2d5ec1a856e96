/- The calendar over all ints: what is asked of any year, month and date. It names no program. -/
import Derived.Test.YtndjhhebmbmppaaDoorCa1
namespace Go.Proofs.YtndjhhebmbmppaaDoor
set_option linter.unusedVariables false
namespace Cal
theorem tmod_zero (y k : Int) (hk : 0 < k) : y.tmod k = 0 ↔ y % k = 0 := by
  rw [← Int.dvd_iff_tmod_eq_zero, ← Int.dvd_iff_emod_eq_zero]
def leapI (y : Int) : Bool := decide (y % 400 = 0) || (decide (y % 4 = 0) && decide (y % 100 ≠ 0))
theorem leapI_nat (y : Nat) : leapI y = leap y := by
  unfold leapI leap
  have e1 : ((y : Int) % 400 = 0) = (y % 400 = 0) := by rw [eq_iff_iff]; omega
  have e2 : ((y : Int) % 4 = 0) = (y % 4 = 0) := by rw [eq_iff_iff]; omega
  have e3 : ((y : Int) % 100 ≠ 0) = (y % 100 ≠ 0) := by rw [eq_iff_iff]; omega
  simp only [e1, e2, e3]
def daysI (y m : Int) : Nat := if m < 1 ∨ 12 < m then 0 else if m = 2 then (if leapI y = true then 29 else 28) else if m = 4 ∨ m = 6 ∨ m = 9 ∨ m = 11 then 30 else 31
theorem daysI_nat (y m : Nat) : daysI y m = days y m := by
  unfold daysI days
  rw [leapI_nat]
  by_cases h2 : m = 2
  · subst h2; simp
  · rw [if_neg (show ¬ (m : Int) = 2 by omega), if_neg h2]
    by_cases h4 : m = 4 ∨ m = 6 ∨ m = 9 ∨ m = 11
    · rw [if_pos h4, if_pos (show (m : Int) = 4 ∨ (m : Int) = 6 ∨ (m : Int) = 9 ∨ (m : Int) = 11 by omega), if_neg (by omega)]
    · rw [if_neg h4, if_neg (show ¬ ((m : Int) = 4 ∨ (m : Int) = 6 ∨ (m : Int) = 9 ∨ (m : Int) = 11) by omega)]
      by_cases h : 1 ≤ m ∧ m ≤ 12
      · rw [if_pos h, if_neg (by omega)]
      · rw [if_neg h, if_pos (by omega)]
theorem daysI_le (y m : Int) : daysI y m ≤ 31 := by
  unfold daysI
  split
  · omega
  · split
    · split <;> omega
    · split <;> omega
/-- Six ints, as a date comes. -/
structure DI where
  Y : Int
  M : Int
  D : Int
  h : Int
  mi : Int
  s : Int
def DI.toD (d : DI) : Date := ⟨d.Y.toNat, d.M.toNat, d.D.toNat, d.h.toNat, d.mi.toNat, d.s.toNat⟩
def Date.toI (d : Date) : DI := ⟨d.Y, d.M, d.D, d.h, d.mi, d.s⟩
def rightI (d : DI) : Bool := decide (1970 ≤ d.Y) && decide (d.Y ≤ 9999) && decide (1 ≤ d.M) && decide (d.M ≤ 12) && decide (1 ≤ d.D) && decide (d.D ≤ (daysI d.Y d.M : Nat)) && decide (0 ≤ d.h) && decide (d.h ≤ 23) && decide (0 ≤ d.mi) && decide (d.mi ≤ 59) && decide (0 ≤ d.s) && decide (d.s ≤ 59)
theorem rightI_iff (d : DI) : rightI d = true ↔ (1970 ≤ d.Y ∧ d.Y ≤ 9999) ∧ (1 ≤ d.M ∧ d.M ≤ 12) ∧ (1 ≤ d.D ∧ d.D ≤ (daysI d.Y d.M : Nat)) ∧ (0 ≤ d.h ∧ d.h ≤ 23) ∧ (0 ≤ d.mi ∧ d.mi ≤ 59) ∧ (0 ≤ d.s ∧ d.s ≤ 59) := by
  simp only [rightI, Bool.and_eq_true, decide_eq_true_eq]
  constructor
  · rintro ⟨⟨⟨⟨⟨⟨⟨⟨⟨⟨⟨h1, h2⟩, h3⟩, h4⟩, h5⟩, h6⟩, h7⟩, h8⟩, h9⟩, h10⟩, h11⟩, h12⟩
    exact ⟨⟨h1, h2⟩, ⟨h3, h4⟩, ⟨h5, h6⟩, ⟨h7, h8⟩, ⟨h9, h10⟩, h11, h12⟩
  · rintro ⟨⟨h1, h2⟩, ⟨h3, h4⟩, ⟨h5, h6⟩, ⟨h7, h8⟩, ⟨h9, h10⟩, h11, h12⟩
    exact ⟨⟨⟨⟨⟨⟨⟨⟨⟨⟨⟨h1, h2⟩, h3⟩, h4⟩, h5⟩, h6⟩, h7⟩, h8⟩, h9⟩, h10⟩, h11⟩, h12⟩
/-- A right date of ints is one of numbers. -/
theorem right_of {d : DI} (h : rightI d = true) : Right d.toD ∧ d.toD.toI = d := by
  obtain ⟨⟨h1, h2⟩, ⟨h3, h4⟩, ⟨h5, h6⟩, ⟨h7, h8⟩, ⟨h9, h10⟩, h11, h12⟩ := (rightI_iff d).1 h
  obtain ⟨Y, M, D, hh, mi, s⟩ := d
  simp only at h1 h2 h3 h4 h5 h6 h7 h8 h9 h10 h11 h12
  obtain ⟨y, rfl⟩ : ∃ y : Nat, Y = y := ⟨Y.toNat, by omega⟩
  obtain ⟨m, rfl⟩ : ∃ y : Nat, M = y := ⟨M.toNat, by omega⟩
  rw [daysI_nat] at h6
  refine ⟨⟨⟨?_, ?_⟩, ⟨?_, ?_⟩, ⟨?_, ?_⟩, ?_, ?_, ?_⟩, ?_⟩
  · simp only [DI.toD, Int.toNat_natCast]; omega
  · simp only [DI.toD, Int.toNat_natCast]; omega
  · simp only [DI.toD, Int.toNat_natCast]; omega
  · simp only [DI.toD, Int.toNat_natCast]; omega
  · simp only [DI.toD]; omega
  · show D.toNat ≤ days y m; omega
  · simp only [DI.toD]; omega
  · simp only [DI.toD]; omega
  · simp only [DI.toD]; omega
  · simp only [DI.toD, Date.toI, Int.toNat_natCast, DI.mk.injEq, true_and]
    omega
theorem rightI_of {d : Date} (h : Right d) : rightI d.toI = true ∧ d.toI.toD = d := by
  obtain ⟨⟨h1, h2⟩, ⟨h3, h4⟩, ⟨h5, h6⟩, h7, h8, h9⟩ := h
  refine ⟨(rightI_iff _).2 ?_, rfl⟩
  simp only [Date.toI, daysI_nat]
  omega
theorem toI_inj {a b : Date} (h : a.toI = b.toI) : a = b := by
  have := congrArg DI.toD h
  exact this
end Cal
end Go.Proofs.YtndjhhebmbmppaaDoor
