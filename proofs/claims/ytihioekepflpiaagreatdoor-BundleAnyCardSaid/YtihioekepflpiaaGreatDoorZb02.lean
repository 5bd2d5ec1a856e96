import Derived.Lib.Hide
set_option linter.unusedVariables false
set_option linter.unusedSimpArgs false
namespace Go.Proofs.YtihioekepflpiaaGreatDoor
namespace Wh
/-- The number of bytes, the high one first. -/
def num : List Nat → Nat
  | [] => 0
  | x :: r => x * 256 ^ r.length + num r
def be : Nat → Nat → List Nat
  | 0, _ => []
  | k + 1, u => u / 256 ^ k % 256 :: be k u
def val : List Nat → Int
  | [] => 0
  | x :: r => if 127 < x then (num (x :: r) : Int) - (256 ^ (r.length + 1) : Nat) else (num (x :: r) : Int)
def needless : List Nat → Bool
  | x :: y :: _ => (decide (x = 0) && decide (y < 128)) || (decide (x = 255) && decide (127 < y))
  | _ => false
def strip : List Nat → List Nat
  | x :: y :: r => if needless (x :: y :: r) = true then strip (y :: r) else x :: y :: r
  | l => l
def u64 (n : Int) : Nat := (n % 18446744073709551616).toNat
def body (n : Int) : List Nat := strip (be 8 (u64 n))
theorem pow_pos (k : Nat) : 0 < 256 ^ k := Nat.pow_pos (by decide)
theorem num_lt : ∀ {l : List Nat}, (∀ x ∈ l, x < 256) → num l < 256 ^ l.length
  | [], _ => by simp [num]
  | x :: r, h => by
    have h1 := num_lt (l := r) (fun y hy => h y (by simp [hy]))
    have h2 := h x (by simp)
    have h3 : x * 256 ^ r.length + 256 ^ r.length ≤ 256 * 256 ^ r.length := by
      have : (x + 1) * 256 ^ r.length ≤ 256 * 256 ^ r.length := Nat.mul_le_mul_right _ h2
      rwa [Nat.add_mul, Nat.one_mul] at this
    rw [num, List.length_cons, Nat.pow_succ, Nat.mul_comm (256 ^ r.length) 256]
    omega
theorem be_len (u : Nat) : ∀ k, (be k u).length = k
  | 0 => rfl
  | k + 1 => by rw [be, List.length_cons, be_len u k]
theorem be_lt (u : Nat) : ∀ k, ∀ x ∈ be k u, x < 256
  | 0 => by simp [be]
  | k + 1 => by
    intro x hx
    rw [be, List.mem_cons] at hx
    rcases hx with rfl | hx
    · exact Nat.mod_lt _ (by decide)
    · exact be_lt u k x hx
theorem num_be (u : Nat) : ∀ k, num (be k u) = u % 256 ^ k
  | 0 => by simp [be, num, Nat.mod_one]
  | k + 1 => by
    rw [be, num, be_len, num_be u k, Nat.pow_succ]
    have := Nat.mod_mul (a := 256 ^ k) (b := 256) (x := u)
    rw [this, Nat.mul_comm (256 ^ k) _]
    omega
theorem needless_val {x y : Nat} {r : List Nat} (h : needless (x :: y :: r) = true) : val (y :: r) = val (x :: y :: r) := by
  rw [needless, Bool.or_eq_true, Bool.and_eq_true, Bool.and_eq_true] at h
  simp only [decide_eq_true_eq] at h
  rw [val, val]
  rcases h with ⟨rfl, hy⟩ | ⟨rfl, hy⟩
  · rw [if_neg (by omega), if_neg (by omega)]
    congr 1
    show _ = 0 * _ + num (y :: r)
    omega
  · rw [if_pos hy, if_pos (by omega)]
    have e : num (255 :: y :: r) = 255 * 256 ^ (r.length + 1) + num (y :: r) := rfl
    rw [e, List.length_cons, Nat.pow_succ 256 (r.length + 1)]
    generalize 256 ^ (r.length + 1) = p
    omega
theorem strip_val : ∀ l, val (strip l) = val l
  | [] => rfl
  | [_] => rfl
  | x :: y :: r => by
    rw [strip]
    split
    · rename_i h
      rw [strip_val (y :: r), needless_val h]
    · rfl
theorem strip_min : ∀ l, needless (strip l) = false
  | [] => rfl
  | [_] => rfl
  | x :: y :: r => by
    rw [strip]
    split
    · exact strip_min (y :: r)
    · rename_i h
      simpa using h
theorem strip_ne : ∀ {l : List Nat}, l ≠ [] → strip l ≠ []
  | [_], _ => by simp [strip]
  | x :: y :: r, _ => by
    rw [strip]
    split
    · exact strip_ne (by simp)
    · simp
theorem strip_len : ∀ l, (strip l).length ≤ l.length
  | [] => Nat.le_refl _
  | [_] => Nat.le_refl _
  | x :: y :: r => by
    rw [strip]
    split
    · have := strip_len (y :: r); simp at this ⊢; omega
    · exact Nat.le_refl _
theorem strip_mem : ∀ {l : List Nat} {x : Nat}, x ∈ strip l → x ∈ l
  | [], _, h => h
  | [_], _, h => h
  | x :: y :: r, z, h => by
    rw [strip] at h
    split at h
    · exact List.mem_cons_of_mem _ (strip_mem h)
    · exact h
/-- A list of k + 1 bytes: the number lies in its reach; and, of as few as can be, in no shorter one's. -/
theorem val_lo {x : Nat} {r : List Nat} (h : ∀ z ∈ x :: r, z < 256) : -(128 * 256 ^ r.length : Int) ≤ val (x :: r) ∧ val (x :: r) < (128 * 256 ^ r.length : Int) := by
  have h1 := num_lt (l := r) (fun z hz => h z (by simp [hz]))
  have h2 := h x (by simp)
  have hp := pow_pos r.length
  have e : num (x :: r) = x * 256 ^ r.length + num r := rfl
  have hc : ((256 : Int) ^ r.length) = ((256 ^ r.length : Nat) : Int) := by simp
  rw [val, e, hc, Nat.pow_succ]
  generalize 256 ^ r.length = p at *
  split
  · rename_i hx
    have a1 : 128 * p ≤ x * p := Nat.mul_le_mul_right _ hx
    have a2 : (x + 1) * p ≤ 256 * p := Nat.mul_le_mul_right _ h2
    rw [Nat.add_mul, Nat.one_mul] at a2
    generalize x * p = q at *
    omega
  · rename_i hx
    have a2 : (x + 1) * p ≤ 128 * p := Nat.mul_le_mul_right _ (by omega)
    rw [Nat.add_mul, Nat.one_mul] at a2
    generalize x * p = q at *
    omega
theorem val_hi {x y : Nat} {r : List Nat} (h : ∀ z ∈ x :: y :: r, z < 256) (hm : needless (x :: y :: r) = false) : val (x :: y :: r) < -(128 * 256 ^ r.length : Int) ∨ (128 * 256 ^ r.length : Int) ≤ val (x :: y :: r) := by
  have h1 := num_lt (l := r) (fun z hz => h z (by simp [hz]))
  have h2 := h x (by simp)
  have h3 := h y (by simp)
  have hp := pow_pos r.length
  have e : num (x :: y :: r) = x * 256 ^ (r.length + 1) + (y * 256 ^ r.length + num r) := rfl
  have hc : ((256 : Int) ^ r.length) = ((256 ^ r.length : Nat) : Int) := by simp
  rw [needless, Bool.or_eq_false_iff, Bool.and_eq_false_iff, Bool.and_eq_false_iff] at hm
  simp only [decide_eq_false_iff_not] at hm
  obtain ⟨m1, m2⟩ := hm
  rw [val, e, hc, List.length_cons]
  simp only [Nat.pow_succ]
  generalize 256 ^ r.length = p at *
  have ex : x * (p * 256) = 256 * (x * p) := by rw [← Nat.mul_assoc, Nat.mul_comm]
  rw [ex]
  split
  · rename_i hx
    left
    rcases Nat.lt_or_ge x 255 with hx2 | hx2
    · have a1 : (x + 1) * p ≤ 255 * p := Nat.mul_le_mul_right _ hx2
      have a2 : (y + 1) * p ≤ 256 * p := Nat.mul_le_mul_right _ h3
      rw [Nat.add_mul, Nat.one_mul] at a1 a2
      generalize x * p = q at *
      generalize y * p = q2 at *
      omega
    · obtain rfl : x = 255 := by omega
      have hy : y < 128 := by rcases m2 with m | m <;> omega
      have a2 : (y + 1) * p ≤ 128 * p := Nat.mul_le_mul_right _ hy
      rw [Nat.add_mul, Nat.one_mul] at a2
      generalize y * p = q2 at *
      omega
  · rename_i hx
    right
    rcases Nat.eq_zero_or_pos x with hx2 | hx2
    · subst hx2
      have hy : 128 ≤ y := by rcases m1 with m | m <;> omega
      have a2 : 128 * p ≤ y * p := Nat.mul_le_mul_right _ hy
      generalize y * p = q2 at *
      omega
    · have a1 : 1 * p ≤ x * p := Nat.mul_le_mul_right _ hx2
      generalize x * p = q at *
      generalize y * p = q2 at *
      omega
/-- What stands for an i64 in eight bytes. -/
theorem val_be8 (n : Int) (h1 : -9223372036854775808 ≤ n) (h2 : n ≤ 9223372036854775807) : val (be 8 (u64 n)) = n := by
  have hn := num_be (u64 n) 8
  have hb : be 8 (u64 n) = u64 n / 256 ^ 7 % 256 :: be 7 (u64 n) := rfl
  have hu : u64 n < 18446744073709551616 := by unfold u64; omega
  rw [Nat.mod_eq_of_lt (show u64 n < 256 ^ 8 from hu)] at hn
  rw [hb, val, ← hb, hn, be_len]
  have hx : u64 n / 256 ^ 7 % 256 = u64 n / 72057594037927936 := by
    rw [show (256 ^ 7 : Nat) = 72057594037927936 by decide]; omega
  have hk : ((256 ^ (7 + 1) : Nat) : Int) = 18446744073709551616 := by decide
  rw [hx, hk]
  have hv : (u64 n : Int) = n % 18446744073709551616 := by unfold u64; omega
  split <;> omega
theorem body_ne (n : Int) : body n ≠ [] := strip_ne (by simp [be])
theorem body_min (n : Int) : needless (body n) = false := strip_min _
theorem body_lt (n : Int) : ∀ x ∈ body n, x < 256 := fun _ hx => be_lt _ 8 _ (strip_mem hx)
theorem body_len (n : Int) : (body n).length ≤ 8 := Nat.le_trans (strip_len _) (Nat.le_of_eq (be_len _ 8))
theorem body_val (n : Int) (h1 : -9223372036854775808 ≤ n) (h2 : n ≤ 9223372036854775807) : val (body n) = n := by rw [body, strip_val, val_be8 n h1 h2]
end Wh
end Go.Proofs.YtihioekepflpiaaGreatDoor
namespace Go.Proofs.YtihioekepflpiaaGreatDoor
namespace Wh
def digF : Nat → Nat → List Nat
  | 0, n => [48 + n % 10]
  | f + 1, n => if n < 10 then [48 + n] else digF f (n / 10) ++ [48 + n % 10]
/-- The figures of a number below 10^20. -/
def dig (n : Nat) : List Nat := digF 20 n
def pval (l : List Nat) : Nat := l.foldl (fun a c => a * 10 + (c - 48)) 0
def fig (c : Nat) : Bool := decide (48 ≤ c) && decide (c ≤ 57)
/-- Figures that are a number's, at most 18. -/
def figs (l : List Nat) : Bool := decide (1 ≤ l.length) && decide (l.length ≤ 18) && l.all fig && (decide (l.length = 1) || decide (l.head? ≠ some 48))
end Wh
end Go.Proofs.YtihioekepflpiaaGreatDoor
namespace Go.Proofs.YtihioekepflpiaaGreatDoor
namespace Od
/-- Which arcs are an identifier's. -/
def right (l : List Int) : Bool :=
  decide (2 ≤ l.length) && decide (l.length ≤ 16) && decide (0 ≤ l.getD 0 0) && decide (l.getD 0 0 ≤ 2) && (decide (2 ≤ l.getD 0 0) || decide (l.getD 1 0 ≤ 39)) && l.all fun n => decide (0 ≤ n) && decide (n ≤ 2147483647)
/-- The pieces of a text between dots, the first one behind what stands already. -/
def splitA : List Nat → List Nat → List (List Nat)
  | acc, [] => [acc]
  | acc, c :: r => if c = 46 then acc :: splitA [] r else splitA (acc ++ [c]) r
def split (l : List Nat) : List (List Nat) := splitA [] l
def part (p : List Nat) : Option Int := if Wh.figs p = true ∧ p.length ≤ 10 then some ((Wh.pval p : Nat) : Int) else none
def arcs : List (List Nat) → Option (List Int)
  | [] => some []
  | p :: r => match part p, arcs r with
    | some n, some l => some (n :: l)
    | _, _ => none
/-- What Parse answers: the arcs, the error's number. -/
def parse (l : List Nat) : Except Nat (List Int) :=
  match arcs (split l) with
  | none => .error 4
  | some a => if right a = true then .ok a else .error 1
/-- Arcs' text. -/
def text : List Int → List Nat
  | [] => []
  | [n] => Wh.dig n.toNat
  | n :: r => Wh.dig n.toNat ++ 46 :: text r
end Od
end Go.Proofs.YtihioekepflpiaaGreatDoor
namespace Go.Proofs.YtihioekepflpiaaGreatDoor
namespace Od
end Od
end Go.Proofs.YtihioekepflpiaaGreatDoor
namespace Go.Proofs.YtihioekepflpiaaGreatDoor
namespace Cal
def leap (y : Nat) : Bool := decide (y % 400 = 0) || (decide (y % 4 = 0) && decide (y % 100 ≠ 0))
def yearLen (y : Nat) : Nat := if leap y = true then 366 else 365
/-- How many days a month has; 0 of what is none. -/
def days (y m : Nat) : Nat := if m = 2 then (if leap y = true then 29 else 28) else if m = 4 ∨ m = 6 ∨ m = 9 ∨ m = 11 then 30 else if 1 ≤ m ∧ m ≤ 12 then 31 else 0
/-- Days from the beginning of 1970 on, k years. -/
def bef : Nat → Nat
  | 0 => 0
  | k + 1 => bef k + yearLen (1970 + k)
/-- Days of a year's first m months. -/
def ms (y : Nat) : Nat → Nat
  | 0 => 0
  | m + 1 => ms y m + days y (m + 1)
theorem bef_closed : ∀ k, bef k + (k + 69) / 100 = 365 * k + (k + 1) / 4 + (k + 369) / 400
  | 0 => rfl
  | k + 1 => by
    have h := bef_closed k
    have e : yearLen (1970 + k) = if (1970 + k) % 400 = 0 then 366 else if (1970 + k) % 4 = 0 ∧ (1970 + k) % 100 ≠ 0 then 366 else 365 := by
      unfold yearLen leap
      by_cases h1 : (1970 + k) % 400 = 0
      · simp [h1]
      · by_cases h2 : (1970 + k) % 4 = 0 <;> by_cases h3 : (1970 + k) % 100 = 0 <;> simp [h1, h2, h3]
    rw [bef, e]
    split
    · omega
    · split <;> omega
theorem bef_mono {a b : Nat} (h : a < b) : bef a + yearLen (1970 + a) ≤ bef b := by
  induction b with
  | zero => omega
  | succ b ih =>
    rw [bef]
    rcases Nat.lt_or_ge a b with h1 | h1
    · have := ih h1; omega
    · have : a = b := by omega
      subst this
      omega
theorem ms12 (y : Nat) : ms y 12 = yearLen y := by
  unfold yearLen
  by_cases h : leap y = true <;> simp [ms, days, h]
theorem days_pos {y m : Nat} (h1 : 1 ≤ m) (h2 : m ≤ 12) : 28 ≤ days y m ∧ days y m ≤ 31 := by
  unfold days
  split
  · split <;> omega
  · split
    · omega
    · rw [if_pos ⟨h1, h2⟩]; omega
theorem ms_mono (y : Nat) {a b : Nat} (h : a < b) : ms y a + days y (a + 1) ≤ ms y b := by
  induction b with
  | zero => omega
  | succ b ih =>
    rw [ms]
    rcases Nat.lt_or_ge a b with h1 | h1
    · have := ih h1; omega
    · have : a = b := by omega
      subst this
      omega
structure Date where
  Y : Nat
  M : Nat
  D : Nat
  h : Nat
  mi : Nat
  s : Nat
/-- Is it a date? -/
def Right (d : Date) : Prop := (1970 ≤ d.Y ∧ d.Y ≤ 9999) ∧ (1 ≤ d.M ∧ d.M ≤ 12) ∧ (1 ≤ d.D ∧ d.D ≤ days d.Y d.M) ∧ d.h ≤ 23 ∧ d.mi ≤ 59 ∧ d.s ≤ 59
/-- The days ahead of a date's. -/
def dayOf (d : Date) : Nat := bef (d.Y - 1970) + ms d.Y (d.M - 1) + (d.D - 1)
def clock (d : Date) : Nat := (d.h * 60 + d.mi) * 60 + d.s
/-- A date's moment. -/
def sec (d : Date) : Nat := dayOf d * 86400 + clock d
theorem clock_lt {d : Date} (h : Right d) : clock d < 86400 := by
  obtain ⟨_, _, _, h1, h2, h3⟩ := h
  unfold clock
  omega
theorem dayOf_lt {d : Date} (h : Right d) : bef (d.Y - 1970) ≤ dayOf d ∧ dayOf d < bef (d.Y - 1970) + yearLen d.Y ∧ bef (d.Y - 1970) + ms d.Y (d.M - 1) ≤ dayOf d ∧ dayOf d < bef (d.Y - 1970) + ms d.Y d.M := by
  obtain ⟨_, ⟨h1, h2⟩, ⟨h3, h4⟩, _⟩ := h
  unfold dayOf
  have e : ms d.Y d.M = ms d.Y (d.M - 1) + days d.Y d.M := by
    obtain ⟨k, hk⟩ : ∃ k, d.M = k + 1 := ⟨d.M - 1, by omega⟩
    rw [hk]
    rfl
  have e2 : ms d.Y d.M ≤ yearLen d.Y := by
    rw [← ms12]
    rcases Nat.lt_or_ge d.M 12 with h5 | h5
    · have := ms_mono d.Y h5; omega
    · have : d.M = 12 := by omega
      rw [this]
      exact Nat.le_refl _
  omega
theorem bef_8030 : bef 8030 = 2932897 := by
  have := bef_closed 8030
  omega
/-- The order of dates. -/
def lt (a b : Date) : Prop := a.Y < b.Y ∨ a.Y = b.Y ∧ (a.M < b.M ∨ a.M = b.M ∧ (a.D < b.D ∨ a.D = b.D ∧ clock a < clock b))
/-- The year of a day, and how many days of it are past. -/
def yr : Nat → Nat → Nat → Nat × Nat
  | 0, y, n => (y, n)
  | f + 1, y, n => if n < yearLen y then (y, n) else yr f (y + 1) (n - yearLen y)
/-- The month of a day of a year. -/
def mo (y : Nat) : Nat → Nat → Nat → Nat × Nat
  | 0, m, n => (m, n)
  | f + 1, m, n => if n < days y m then (m, n) else mo y f (m + 1) (n - days y m)
theorem yr_of : ∀ (f k n : Nat), bef k + n < bef (k + f) → ∃ j, k ≤ j ∧ j < k + f ∧ yr f (1970 + k) n = (1970 + j, bef k + n - bef j) ∧ bef j ≤ bef k + n ∧ bef k + n < bef j + yearLen (1970 + j)
  | 0, k, n, h => by rw [Nat.add_zero] at h; omega
  | f + 1, k, n, h => by
    rw [yr]
    split
    · rename_i hn
      exact ⟨k, by omega, by omega, by rw [Nat.add_sub_cancel_left], by omega, by omega⟩
    · rename_i hn
      have e : bef (k + 1) = bef k + yearLen (1970 + k) := rfl
      obtain ⟨j, j1, j2, j3, j4, j5⟩ := yr_of f (k + 1) (n - yearLen (1970 + k)) (by rw [e, show k + 1 + f = k + (f + 1) by omega]; omega)
      rw [e, show bef k + yearLen (1970 + k) + (n - yearLen (1970 + k)) = bef k + n by omega] at j3 j4 j5
      exact ⟨j, by omega, by omega, by rw [show 1970 + k + 1 = 1970 + (k + 1) by omega]; exact j3, j4, j5⟩
theorem mo_of (y : Nat) : ∀ (f m n : Nat), m + f = 12 → ms y m + n < ms y 12 → ∃ j, m ≤ j ∧ j < 12 ∧ mo y f (m + 1) n = (j + 1, ms y m + n - ms y j) ∧ ms y j ≤ ms y m + n ∧ ms y m + n < ms y j + days y (j + 1)
  | 0, m, n, hm, h => by
    have : m = 12 := by omega
    subst this
    omega
  | f + 1, m, n, hm, h => by
    rw [mo]
    split
    · rename_i hn
      exact ⟨m, by omega, by omega, by rw [Nat.add_sub_cancel_left], by omega, by omega⟩
    · rename_i hn
      have e : ms y (m + 1) = ms y m + days y (m + 1) := rfl
      obtain ⟨j, j1, j2, j3, j4, j5⟩ := mo_of y f (m + 1) (n - days y (m + 1)) (by omega) (by rw [e]; omega)
      rw [e, show ms y m + days y (m + 1) + (n - days y (m + 1)) = ms y m + n by omega] at j3 j4 j5
      exact ⟨j, by omega, j2, j3, j4, j5⟩
/-- A moment's date. -/
def of (t : Nat) : Date :=
  let y := yr 8030 1970 (t / 86400)
  let m := mo y.1 12 1 y.2
  ⟨y.1, m.1, m.2 + 1, t / 3600 % 24, t / 60 % 60, t % 60⟩
theorem of_right {t : Nat} (h : t ≤ 253402300799) : Right (of t) ∧ sec (of t) = t := by
  have hb := bef_8030
  obtain ⟨j, j1, j2, j3, j4, j5⟩ := yr_of 8030 0 (t / 86400) (by
    rw [Nat.zero_add, hb]
    show 0 + t / 86400 < 2932897
    omega)
  have e0 : bef 0 = 0 := rfl
  rw [e0, Nat.zero_add] at j3 j4 j5
  rw [Nat.add_zero] at j3
  obtain ⟨i, i1, i2, i3, i4, i5⟩ := mo_of (1970 + j) 12 0 (t / 86400 - bef j) rfl (by rw [ms12]; show 0 + _ < _; omega)
  have e1 : ms (1970 + j) 0 = 0 := rfl
  rw [e1, Nat.zero_add] at i3 i4 i5
  have ho : of t = ⟨1970 + j, i + 1, t / 86400 - bef j - ms (1970 + j) i + 1, t / 3600 % 24, t / 60 % 60, t % 60⟩ := by
    unfold of
    simp only [j3, i3, Nat.zero_add]
  rw [ho]
  have hr : Right ⟨1970 + j, i + 1, t / 86400 - bef j - ms (1970 + j) i + 1, t / 3600 % 24, t / 60 % 60, t % 60⟩ := by
    refine ⟨⟨?_, ?_⟩, ⟨?_, ?_⟩, ⟨?_, ?_⟩, ?_, ?_, ?_⟩
    all_goals simp only []
    all_goals omega
  refine ⟨hr, ?_⟩
  unfold sec dayOf clock
  simp only []
  rw [show 1970 + j - 1970 = j by omega, show i + 1 - 1 = i by omega]
  omega
end Cal
end Go.Proofs.YtihioekepflpiaaGreatDoor
namespace Go.Proofs.YtihioekepflpiaaGreatDoor
namespace Cal
def two (n : Nat) : List Nat := [48 + n / 10, 48 + n % 10]
/-- A date's body. -/
def text (d : Date) : List Nat := two (d.Y / 100) ++ (two (d.Y % 100) ++ (two d.M ++ (two d.D ++ (two d.h ++ (two d.mi ++ (two d.s ++ [90]))))))
def lex : List Nat → List Nat → Bool
  | [], [] => false
  | [], _ :: _ => true
  | _ :: _, [] => false
  | x :: r, y :: s => if x = y then lex r s else decide (x < y)
theorem text_len (d : Date) : (text d).length = 15 := rfl
instance (d : Date) : Decidable (Right d) := by unfold Right; infer_instance
end Cal
end Go.Proofs.YtihioekepflpiaaGreatDoor
namespace Go.Proofs.YtihioekepflpiaaGreatDoor
namespace Pt
/-- Eight bits the other way round. -/
def rev8 (x : Nat) : Nat := x / 128 % 2 + x / 64 % 2 * 2 + x / 32 % 2 * 4 + x / 16 % 2 * 8 + x / 8 % 2 * 16 + x / 4 % 2 * 32 + x / 2 % 2 * 64 + x % 2 * 128
theorem rev8_lt (x : Nat) : rev8 x < 256 := by unfold rev8; omega
/-- How many bits a number has. -/
def size (n : Nat) : Nat := if n = 0 then 0 else n.log2 + 1
/-- A mask's body. -/
def flags (m : Nat) : List Nat := if m = 0 then [0] else if m < 256 then [8 - size m, rev8 m] else [16 - size m, rev8 (m % 256), rev8 (m / 256)]
theorem flags_lt (m : Nat) (hm : m < 32768) : ∀ x ∈ flags m, x < 256 := by
  intro x hx
  unfold flags at hx
  have := rev8_lt m; have := rev8_lt (m % 256); have := rev8_lt (m / 256)
  split at hx
  · simp at hx; omega
  · split at hx
    · simp at hx; omega
    · simp at hx; omega
end Pt
end Go.Proofs.YtihioekepflpiaaGreatDoor
namespace Go.Proofs.YtihioekepflpiaaGreatDoor
namespace Pt
theorem lex_irr : ∀ a, Cal.lex a a = false
  | [] => rfl
  | x :: r => by rw [Cal.lex, if_pos rfl]; exact lex_irr r
theorem lex_trans : ∀ a b c, Cal.lex a b = true → Cal.lex b c = true → Cal.lex a c = true
  | [], [], _, h, _ => by simp [Cal.lex] at h
  | [], _ :: _, [], _, h => by simp [Cal.lex] at h
  | [], _ :: _, _ :: _, _, _ => rfl
  | _ :: _, [], _, h, _ => by simp [Cal.lex] at h
  | _ :: _, _ :: _, [], _, h => by simp [Cal.lex] at h
  | x :: r, y :: s, z :: t, h1, h2 => by
    rw [Cal.lex] at h1 h2 ⊢
    by_cases e1 : x = y
    · subst e1
      rw [if_pos rfl] at h1
      by_cases e2 : x = z
      · subst e2
        rw [if_pos rfl] at h2 ⊢
        exact lex_trans r s t h1 h2
      · rw [if_neg e2] at h2 ⊢; exact h2
    · rw [if_neg e1, decide_eq_true_eq] at h1
      by_cases e2 : y = z
      · subst e2
        rw [if_neg (by omega), decide_eq_true_eq]; exact h1
      · rw [if_neg e2, decide_eq_true_eq] at h2
        rw [if_neg (by omega), decide_eq_true_eq]; omega
theorem lex_tri : ∀ a b, Cal.lex a b = true ∨ a = b ∨ Cal.lex b a = true
  | [], [] => .inr (.inl rfl)
  | [], _ :: _ => .inl rfl
  | _ :: _, [] => .inr (.inr rfl)
  | x :: r, y :: s => by
    by_cases e : x = y
    · subst e
      rcases lex_tri r s with h | h | h
      · left; rw [Cal.lex, if_pos rfl]; exact h
      · right; left; rw [h]
      · right; right; rw [Cal.lex, if_pos rfl]; exact h
    · rcases Nat.lt_or_gt_of_ne e with h | h
      · left; rw [Cal.lex, if_neg e, decide_eq_true_eq]; exact h
      · right; right; rw [Cal.lex, if_neg (fun e' => e e'.symm), decide_eq_true_eq]; exact h
/-- Not behind. -/
def le (a b : List Nat) : Prop := Cal.lex b a = false
instance (a b : List Nat) : Decidable (le a b) := by unfold le; infer_instance
theorem le_refl (a : List Nat) : le a a := lex_irr a
theorem le_of_lt {a b : List Nat} (h : Cal.lex a b = true) : le a b := by
  unfold le
  rw [← Bool.not_eq_true]
  intro h2
  have := lex_trans _ _ _ h h2
  rw [lex_irr] at this
  cases this
theorem le_trans {a b c : List Nat} (h1 : le a b) (h2 : le b c) : le a c := by
  unfold le at *
  rcases lex_tri a b with h | h | h
  · rcases lex_tri b c with k | k | k
    · exact le_of_lt (lex_trans _ _ _ h k)
    · subst k; exact h1
    · rw [k] at h2; cases h2
  · subst h; exact h2
  · rw [h] at h1; cases h1
theorem le_anti {a b : List Nat} (h1 : le a b) (h2 : le b a) : a = b := by
  unfold le at *
  rcases lex_tri a b with h | h | h
  · rw [h] at h2; cases h2
  · exact h
  · rw [h] at h1; cases h1
def ins (x : List Nat) : List (List Nat) → List (List Nat)
  | [] => [x]
  | y :: r => if Cal.lex x y = true then x :: y :: r else y :: ins x r
/-- In order. -/
def sort : List (List Nat) → List (List Nat)
  | [] => []
  | x :: r => ins x (sort r)
def Sorted (l : List (List Nat)) : Prop := l.Pairwise le
theorem ins_perm (x : List Nat) : ∀ l, (ins x l).Perm (x :: l)
  | [] => List.Perm.refl _
  | y :: r => by
    rw [ins]
    split
    · exact List.Perm.refl _
    · exact ((ins_perm x r).cons y).trans (List.Perm.swap x y r)
theorem ins_sorted (x : List Nat) : ∀ l, Sorted l → Sorted (ins x l)
  | [], _ => by simp [ins, Sorted]
  | y :: r, h => by
    rw [ins]
    have h' := List.pairwise_cons.1 h
    split
    · rename_i hlt
      refine List.pairwise_cons.2 ⟨fun z hz => ?_, h⟩
      rcases List.mem_cons.1 hz with e | hz
      · subst e; exact le_of_lt hlt
      · exact le_trans (le_of_lt hlt) (h'.1 z hz)
    · rename_i hlt
      refine List.pairwise_cons.2 ⟨fun z hz => ?_, ins_sorted x r h'.2⟩
      rcases List.mem_cons.1 ((ins_perm x r).mem_iff.1 hz) with e | hz
      · subst e
        unfold le
        rw [← Bool.not_eq_true]
        exact hlt
      · exact h'.1 z hz
theorem sort_perm : ∀ l, (sort l).Perm l
  | [] => List.Perm.refl _
  | x :: r => (ins_perm x (sort r)).trans ((sort_perm r).cons x)
theorem sort_sorted : ∀ l, Sorted (sort l)
  | [] => List.Pairwise.nil
  | x :: r => ins_sorted x _ (sort_sorted r)
theorem sorted_unique {a b : List (List Nat)} (ha : Sorted a) (hb : Sorted b) (h : a.Perm b) : a = b :=
  List.Perm.eq_of_pairwise (le := le) (fun _ _ _ _ h1 h2 => le_anti h1 h2) ha hb h
/-- What is in order and the same is the list in order. -/
theorem sort_is {a l : List (List Nat)} (ha : Sorted a) (h : a.Perm l) : sort l = a := sorted_unique (sort_sorted l) ha ((sort_perm l).trans h.symm)
theorem sort_len (l : List (List Nat)) : (sort l).length = l.length := (sort_perm l).length_eq
theorem sort_mem {l : List (List Nat)} {x : List Nat} : x ∈ sort l ↔ x ∈ l := (sort_perm l).mem_iff
end Pt
end Go.Proofs.YtihioekepflpiaaGreatDoor
namespace Go.Proofs.YtihioekepflpiaaGreatDoor
namespace Cal
theorem tmod_zero (y k : Int) (hk : 0 < k) : y.tmod k = 0 ↔ y % k = 0 := by
  rw [← Int.dvd_iff_tmod_eq_zero, ← Int.dvd_iff_emod_eq_zero]
def leapI (y : Int) : Bool := decide (y % 400 = 0) || (decide (y % 4 = 0) && decide (y % 100 ≠ 0))
theorem leapI_nat (y : Nat) : leapI y = leap y := by
  unfold leapI leap
  have e1 : ((y : Int) % 400 = 0) = (y % 400 = 0) := by rw [eq_iff_iff]; omega
  have e2 : ((y : Int) % 4 = 0) = (y % 4 = 0) := by rw [eq_iff_iff]; omega
  have e3 : ((y : Int) % 100 ≠ 0) = (y % 100 ≠ 0) := by rw [eq_iff_iff]; omega
  simp only [e1, e2, e3]
def daysI (y m : Int) : Nat := if m < 1 ∨ 12 < m then 0 else if m = 2 then (if leapI y = true then 29 else 28) else if m = 4 ∨ m = 6 ∨ m = 9 ∨ m = 11 then 30 else 31
theorem daysI_nat (y m : Nat) : daysI y m = days y m := by
  unfold daysI days
  rw [leapI_nat]
  by_cases h2 : m = 2
  · subst h2; simp
  · rw [if_neg (show ¬ (m : Int) = 2 by omega), if_neg h2]
    by_cases h4 : m = 4 ∨ m = 6 ∨ m = 9 ∨ m = 11
    · rw [if_pos h4, if_pos (show (m : Int) = 4 ∨ (m : Int) = 6 ∨ (m : Int) = 9 ∨ (m : Int) = 11 by omega), if_neg (by omega)]
    · rw [if_neg h4, if_neg (show ¬ ((m : Int) = 4 ∨ (m : Int) = 6 ∨ (m : Int) = 9 ∨ (m : Int) = 11) by omega)]
      by_cases h : 1 ≤ m ∧ m ≤ 12
      · rw [if_pos h, if_neg (by omega)]
      · rw [if_neg h, if_pos (by omega)]
theorem daysI_le (y m : Int) : daysI y m ≤ 31 := by
  unfold daysI
  split
  · omega
  · split
    · split <;> omega
    · split <;> omega
/-- Six ints, as a date comes. -/
structure DI where
  Y : Int
  M : Int
  D : Int
  h : Int
  mi : Int
  s : Int
def Date.toI (d : Date) : DI := ⟨d.Y, d.M, d.D, d.h, d.mi, d.s⟩
end Cal
end Go.Proofs.YtihioekepflpiaaGreatDoor
