/- The calendar, as plain functions: days of years and months, moments and dates. It names no program. -/
import Derived.Lib.Hide
namespace Go.Proofs.YtepjjgplnmkjgaaDoor
namespace Cal
def leap (y : Nat) : Bool := decide (y % 400 = 0) || (decide (y % 4 = 0) && decide (y % 100 ≠ 0))
def yearLen (y : Nat) : Nat := if leap y = true then 366 else 365
/-- How many days a month has; 0 of what is none. -/
def days (y m : Nat) : Nat := if m = 2 then (if leap y = true then 29 else 28) else if m = 4 ∨ m = 6 ∨ m = 9 ∨ m = 11 then 30 else if 1 ≤ m ∧ m ≤ 12 then 31 else 0
/-- Days from the beginning of 1970 on, k years. -/
def bef : Nat → Nat
  | 0 => 0
  | k + 1 => bef k + yearLen (1970 + k)
/-- Days of a year's first m months. -/
def ms (y : Nat) : Nat → Nat
  | 0 => 0
  | m + 1 => ms y m + days y (m + 1)
theorem bef_closed : ∀ k, bef k + (k + 69) / 100 = 365 * k + (k + 1) / 4 + (k + 369) / 400
  | 0 => rfl
  | k + 1 => by
    have h := bef_closed k
    have e : yearLen (1970 + k) = if (1970 + k) % 400 = 0 then 366 else if (1970 + k) % 4 = 0 ∧ (1970 + k) % 100 ≠ 0 then 366 else 365 := by
      unfold yearLen leap
      by_cases h1 : (1970 + k) % 400 = 0
      · simp [h1]
      · by_cases h2 : (1970 + k) % 4 = 0 <;> by_cases h3 : (1970 + k) % 100 = 0 <;> simp [h1, h2, h3]
    rw [bef, e]
    split
    · omega
    · split <;> omega
theorem yearLen_le (y : Nat) : 365 ≤ yearLen y ∧ yearLen y ≤ 366 := by unfold yearLen; split <;> omega
theorem bef_mono {a b : Nat} (h : a < b) : bef a + yearLen (1970 + a) ≤ bef b := by
  induction b with
  | zero => omega
  | succ b ih =>
    rw [bef]
    rcases Nat.lt_or_ge a b with h1 | h1
    · have := ih h1; omega
    · have : a = b := by omega
      subst this
      omega
theorem ms12 (y : Nat) : ms y 12 = yearLen y := by
  unfold yearLen
  by_cases h : leap y = true <;> simp [ms, days, h]
theorem days_pos {y m : Nat} (h1 : 1 ≤ m) (h2 : m ≤ 12) : 28 ≤ days y m ∧ days y m ≤ 31 := by
  unfold days
  split
  · split <;> omega
  · split
    · omega
    · rw [if_pos ⟨h1, h2⟩]; omega
theorem ms_mono (y : Nat) {a b : Nat} (h : a < b) : ms y a + days y (a + 1) ≤ ms y b := by
  induction b with
  | zero => omega
  | succ b ih =>
    rw [ms]
    rcases Nat.lt_or_ge a b with h1 | h1
    · have := ih h1; omega
    · have : a = b := by omega
      subst this
      omega

structure Date where
  Y : Nat
  M : Nat
  D : Nat
  h : Nat
  mi : Nat
  s : Nat
/-- Is it a date? -/
def Right (d : Date) : Prop := (1970 ≤ d.Y ∧ d.Y ≤ 9999) ∧ (1 ≤ d.M ∧ d.M ≤ 12) ∧ (1 ≤ d.D ∧ d.D ≤ days d.Y d.M) ∧ d.h ≤ 23 ∧ d.mi ≤ 59 ∧ d.s ≤ 59
/-- The days ahead of a date's. -/
def dayOf (d : Date) : Nat := bef (d.Y - 1970) + ms d.Y (d.M - 1) + (d.D - 1)
def clock (d : Date) : Nat := (d.h * 60 + d.mi) * 60 + d.s
/-- A date's moment. -/
def sec (d : Date) : Nat := dayOf d * 86400 + clock d
theorem clock_lt {d : Date} (h : Right d) : clock d < 86400 := by
  obtain ⟨_, _, _, h1, h2, h3⟩ := h
  unfold clock
  omega
theorem dayOf_lt {d : Date} (h : Right d) : bef (d.Y - 1970) ≤ dayOf d ∧ dayOf d < bef (d.Y - 1970) + yearLen d.Y ∧ bef (d.Y - 1970) + ms d.Y (d.M - 1) ≤ dayOf d ∧ dayOf d < bef (d.Y - 1970) + ms d.Y d.M := by
  obtain ⟨_, ⟨h1, h2⟩, ⟨h3, h4⟩, _⟩ := h
  unfold dayOf
  have e : ms d.Y d.M = ms d.Y (d.M - 1) + days d.Y d.M := by
    obtain ⟨k, hk⟩ : ∃ k, d.M = k + 1 := ⟨d.M - 1, by omega⟩
    rw [hk]
    rfl
  have e2 : ms d.Y d.M ≤ yearLen d.Y := by
    rw [← ms12]
    rcases Nat.lt_or_ge d.M 12 with h5 | h5
    · have := ms_mono d.Y h5; omega
    · have : d.M = 12 := by omega
      rw [this]
      exact Nat.le_refl _
  omega
theorem bef_8030 : bef 8030 = 2932897 := by
  have := bef_closed 8030
  omega
/-- A date is a moment up to MaxTime. -/
theorem sec_le {d : Date} (h : Right d) : sec d ≤ 253402300799 := by
  have h1 := dayOf_lt h
  have h2 := clock_lt h
  have h3 : bef (d.Y - 1970) + yearLen d.Y ≤ bef 8030 := by
    have hY := h.1
    have := bef_mono (show d.Y - 1970 < 8030 by omega)
    rw [show 1970 + (d.Y - 1970) = d.Y by omega] at this
    exact this
  rw [bef_8030] at h3
  unfold sec
  omega
/-- The order of dates. -/
def lt (a b : Date) : Prop := a.Y < b.Y ∨ a.Y = b.Y ∧ (a.M < b.M ∨ a.M = b.M ∧ (a.D < b.D ∨ a.D = b.D ∧ clock a < clock b))
theorem sec_lt {a b : Date} (ha : Right a) (hb : Right b) (h : lt a b) : sec a < sec b := by
  have a1 := dayOf_lt ha
  have b1 := dayOf_lt hb
  have a2 := clock_lt ha
  have b2 := clock_lt hb
  have key : dayOf a < dayOf b ∨ dayOf a = dayOf b ∧ clock a < clock b := by
    rcases h with h | ⟨hY, h⟩
    · left
      have hm := bef_mono (show a.Y - 1970 < b.Y - 1970 by have := ha.1; omega)
      rw [show 1970 + (a.Y - 1970) = a.Y by have := ha.1; omega] at hm
      omega
    · rcases h with h | ⟨hM, h⟩
      · left
        have hm : ms a.Y a.M ≤ ms b.Y (b.M - 1) := by
          rw [hY]
          rcases Nat.lt_or_ge a.M (b.M - 1) with h5 | h5
          · have := ms_mono b.Y h5; omega
          · have : a.M = b.M - 1 := by omega
            rw [this]
            exact Nat.le_refl _
        rw [hY] at a1 hm
        omega
      · rcases h with h | ⟨hD, h⟩
        · left
          unfold dayOf
          rw [hY, hM]
          have := ha.2.2.1
          omega
        · right
          refine ⟨?_, h⟩
          unfold dayOf
          rw [hY, hM, hD]
  unfold sec
  rcases key with k | ⟨k1, k2⟩ <;> omega
theorem clock_inj {a b : Date} (ha : Right a) (hb : Right b) (h : clock a = clock b) : a.h = b.h ∧ a.mi = b.mi ∧ a.s = b.s := by
  obtain ⟨_, _, _, h1, h2, h3⟩ := ha
  obtain ⟨_, _, _, k1, k2, k3⟩ := hb
  unfold clock at h
  omega
theorem trich {a b : Date} (ha : Right a) (hb : Right b) : lt a b ∨ a = b ∨ lt b a := by
  unfold lt
  rcases Nat.lt_trichotomy a.Y b.Y with h | h | h
  · exact .inl (.inl h)
  · rcases Nat.lt_trichotomy a.M b.M with k | k | k
    · exact .inl (.inr ⟨h, .inl k⟩)
    · rcases Nat.lt_trichotomy a.D b.D with l | l | l
      · exact .inl (.inr ⟨h, .inr ⟨k, .inl l⟩⟩)
      · rcases Nat.lt_trichotomy (clock a) (clock b) with m | m | m
        · exact .inl (.inr ⟨h, .inr ⟨k, .inr ⟨l, m⟩⟩⟩)
        · right; left
          obtain ⟨n1, n2, n3⟩ := clock_inj ha hb m
          cases a; cases b
          simp_all
        · exact .inr (.inr (.inr ⟨h.symm, .inr ⟨k.symm, .inr ⟨l.symm, m⟩⟩⟩))
      · exact .inr (.inr (.inr ⟨h.symm, .inr ⟨k.symm, .inl l⟩⟩))
    · exact .inr (.inr (.inr ⟨h.symm, .inl k⟩))
  · exact .inr (.inr (.inl h))
/-- A moment has one date. -/
theorem sec_inj {a b : Date} (ha : Right a) (hb : Right b) (h : sec a = sec b) : a = b := by
  rcases trich ha hb with k | k | k
  · have := sec_lt ha hb k; omega
  · exact k
  · have := sec_lt hb ha k; omega
theorem sec_lt_iff {a b : Date} (ha : Right a) (hb : Right b) : sec a < sec b ↔ lt a b := by
  constructor
  · intro h
    rcases trich ha hb with k | k | k
    · exact k
    · subst k; omega
    · have := sec_lt hb ha k; omega
  · exact sec_lt ha hb
/-- The year of a day, and how many days of it are past. -/
def yr : Nat → Nat → Nat → Nat × Nat
  | 0, y, n => (y, n)
  | f + 1, y, n => if n < yearLen y then (y, n) else yr f (y + 1) (n - yearLen y)
/-- The month of a day of a year. -/
def mo (y : Nat) : Nat → Nat → Nat → Nat × Nat
  | 0, m, n => (m, n)
  | f + 1, m, n => if n < days y m then (m, n) else mo y f (m + 1) (n - days y m)
theorem yr_of : ∀ (f k n : Nat), bef k + n < bef (k + f) → ∃ j, k ≤ j ∧ j < k + f ∧ yr f (1970 + k) n = (1970 + j, bef k + n - bef j) ∧ bef j ≤ bef k + n ∧ bef k + n < bef j + yearLen (1970 + j)
  | 0, k, n, h => by rw [Nat.add_zero] at h; omega
  | f + 1, k, n, h => by
    rw [yr]
    split
    · rename_i hn
      exact ⟨k, by omega, by omega, by rw [Nat.add_sub_cancel_left], by omega, by omega⟩
    · rename_i hn
      have e : bef (k + 1) = bef k + yearLen (1970 + k) := rfl
      obtain ⟨j, j1, j2, j3, j4, j5⟩ := yr_of f (k + 1) (n - yearLen (1970 + k)) (by rw [e, show k + 1 + f = k + (f + 1) by omega]; omega)
      rw [e, show bef k + yearLen (1970 + k) + (n - yearLen (1970 + k)) = bef k + n by omega] at j3 j4 j5
      exact ⟨j, by omega, by omega, by rw [show 1970 + k + 1 = 1970 + (k + 1) by omega]; exact j3, j4, j5⟩
theorem mo_of (y : Nat) : ∀ (f m n : Nat), m + f = 12 → ms y m + n < ms y 12 → ∃ j, m ≤ j ∧ j < 12 ∧ mo y f (m + 1) n = (j + 1, ms y m + n - ms y j) ∧ ms y j ≤ ms y m + n ∧ ms y m + n < ms y j + days y (j + 1)
  | 0, m, n, hm, h => by
    have : m = 12 := by omega
    subst this
    omega
  | f + 1, m, n, hm, h => by
    rw [mo]
    split
    · rename_i hn
      exact ⟨m, by omega, by omega, by rw [Nat.add_sub_cancel_left], by omega, by omega⟩
    · rename_i hn
      have e : ms y (m + 1) = ms y m + days y (m + 1) := rfl
      obtain ⟨j, j1, j2, j3, j4, j5⟩ := mo_of y f (m + 1) (n - days y (m + 1)) (by omega) (by rw [e]; omega)
      rw [e, show ms y m + days y (m + 1) + (n - days y (m + 1)) = ms y m + n by omega] at j3 j4 j5
      exact ⟨j, by omega, j2, j3, j4, j5⟩
/-- A moment's date. -/
def of (t : Nat) : Date :=
  let y := yr 8030 1970 (t / 86400)
  let m := mo y.1 12 1 y.2
  ⟨y.1, m.1, m.2 + 1, t / 3600 % 24, t / 60 % 60, t % 60⟩
theorem of_right {t : Nat} (h : t ≤ 253402300799) : Right (of t) ∧ sec (of t) = t := by
  have hb := bef_8030
  obtain ⟨j, j1, j2, j3, j4, j5⟩ := yr_of 8030 0 (t / 86400) (by
    rw [Nat.zero_add, hb]
    show 0 + t / 86400 < 2932897
    omega)
  have e0 : bef 0 = 0 := rfl
  rw [e0, Nat.zero_add] at j3 j4 j5
  rw [Nat.add_zero] at j3
  obtain ⟨i, i1, i2, i3, i4, i5⟩ := mo_of (1970 + j) 12 0 (t / 86400 - bef j) rfl (by rw [ms12]; show 0 + _ < _; omega)
  have e1 : ms (1970 + j) 0 = 0 := rfl
  rw [e1, Nat.zero_add] at i3 i4 i5
  have ho : of t = ⟨1970 + j, i + 1, t / 86400 - bef j - ms (1970 + j) i + 1, t / 3600 % 24, t / 60 % 60, t % 60⟩ := by
    unfold of
    simp only [j3, i3, Nat.zero_add]
  rw [ho]
  have hr : Right ⟨1970 + j, i + 1, t / 86400 - bef j - ms (1970 + j) i + 1, t / 3600 % 24, t / 60 % 60, t % 60⟩ := by
    refine ⟨⟨?_, ?_⟩, ⟨?_, ?_⟩, ⟨?_, ?_⟩, ?_, ?_, ?_⟩
    all_goals simp only []
    all_goals omega
  refine ⟨hr, ?_⟩
  unfold sec dayOf clock
  simp only []
  rw [show 1970 + j - 1970 = j by omega, show i + 1 - 1 = i by omega]
  omega
theorem of_sec {d : Date} (h : Right d) : of (sec d) = d := by
  obtain ⟨h1, h2⟩ := of_right (sec_le h)
  exact sec_inj h1 h h2
end Cal
end Go.Proofs.YtepjjgplnmkjgaaDoor
