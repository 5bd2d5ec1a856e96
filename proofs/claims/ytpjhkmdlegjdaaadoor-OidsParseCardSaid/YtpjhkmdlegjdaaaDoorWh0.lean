/- Whole numbers' bodies (two's complement, of as few bytes as can be) and figures, as plain functions. It names no program. -/
import Derived.Lib.Hide
namespace Go.Proofs.YtpjhkmdlegjdaaaDoor
namespace Wh

/-- The number of bytes, the high one first. -/
def num : List Nat → Nat
  | [] => 0
  | x :: r => x * 256 ^ r.length + num r
def be : Nat → Nat → List Nat
  | 0, _ => []
  | k + 1, u => u / 256 ^ k % 256 :: be k u
def val : List Nat → Int
  | [] => 0
  | x :: r => if 127 < x then (num (x :: r) : Int) - (256 ^ (r.length + 1) : Nat) else (num (x :: r) : Int)
def needless : List Nat → Bool
  | x :: y :: _ => (decide (x = 0) && decide (y < 128)) || (decide (x = 255) && decide (127 < y))
  | _ => false
def strip : List Nat → List Nat
  | x :: y :: r => if needless (x :: y :: r) = true then strip (y :: r) else x :: y :: r
  | l => l
def u64 (n : Int) : Nat := (n % 18446744073709551616).toNat
def body (n : Int) : List Nat := strip (be 8 (u64 n))

theorem pow_pos (k : Nat) : 0 < 256 ^ k := Nat.pow_pos (by decide)
theorem num_lt : ∀ {l : List Nat}, (∀ x ∈ l, x < 256) → num l < 256 ^ l.length
  | [], _ => by simp [num]
  | x :: r, h => by
    have h1 := num_lt (l := r) (fun y hy => h y (by simp [hy]))
    have h2 := h x (by simp)
    have h3 : x * 256 ^ r.length + 256 ^ r.length ≤ 256 * 256 ^ r.length := by
      have : (x + 1) * 256 ^ r.length ≤ 256 * 256 ^ r.length := Nat.mul_le_mul_right _ h2
      rwa [Nat.add_mul, Nat.one_mul] at this
    rw [num, List.length_cons, Nat.pow_succ, Nat.mul_comm (256 ^ r.length) 256]
    omega
theorem num_inj : ∀ {a b : List Nat}, a.length = b.length → (∀ x ∈ a, x < 256) → (∀ x ∈ b, x < 256) → num a = num b → a = b
  | [], [], _, _, _, _ => rfl
  | x :: r, y :: s, hl, ha, hb, h => by
    have hl' : r.length = s.length := by simpa using hl
    have h1 := num_lt (l := r) (fun z hz => ha z (by simp [hz]))
    have h2 := num_lt (l := s) (fun z hz => hb z (by simp [hz]))
    rw [num, num, ← hl'] at h
    rw [← hl'] at h2
    have hp := pow_pos r.length
    have hx : x = y := by
      have e1 : (x * 256 ^ r.length + num r) / 256 ^ r.length = x := by
        rw [Nat.add_comm, Nat.add_mul_div_right _ _ hp, Nat.div_eq_of_lt h1, Nat.zero_add]
      have e2 : (y * 256 ^ r.length + num s) / 256 ^ r.length = y := by
        rw [Nat.add_comm, Nat.add_mul_div_right _ _ hp, Nat.div_eq_of_lt h2, Nat.zero_add]
      rw [← e1, h, e2]
    subst hx
    have : num r = num s := by omega
    rw [num_inj hl' (fun z hz => ha z (by simp [hz])) (fun z hz => hb z (by simp [hz])) this]
theorem be_len (u : Nat) : ∀ k, (be k u).length = k
  | 0 => rfl
  | k + 1 => by rw [be, List.length_cons, be_len u k]
theorem be_lt (u : Nat) : ∀ k, ∀ x ∈ be k u, x < 256
  | 0 => by simp [be]
  | k + 1 => by
    intro x hx
    rw [be, List.mem_cons] at hx
    rcases hx with rfl | hx
    · exact Nat.mod_lt _ (by decide)
    · exact be_lt u k x hx
theorem num_be (u : Nat) : ∀ k, num (be k u) = u % 256 ^ k
  | 0 => by simp [be, num, Nat.mod_one]
  | k + 1 => by
    rw [be, num, be_len, num_be u k, Nat.pow_succ]
    have := Nat.mod_mul (a := 256 ^ k) (b := 256) (x := u)
    rw [this, Nat.mul_comm (256 ^ k) _]
    omega

theorem needless_val {x y : Nat} {r : List Nat} (h : needless (x :: y :: r) = true) : val (y :: r) = val (x :: y :: r) := by
  rw [needless, Bool.or_eq_true, Bool.and_eq_true, Bool.and_eq_true] at h
  simp only [decide_eq_true_eq] at h
  rw [val, val]
  rcases h with ⟨rfl, hy⟩ | ⟨rfl, hy⟩
  · rw [if_neg (by omega), if_neg (by omega)]
    congr 1
    show _ = 0 * _ + num (y :: r)
    omega
  · rw [if_pos hy, if_pos (by omega)]
    have e : num (255 :: y :: r) = 255 * 256 ^ (r.length + 1) + num (y :: r) := rfl
    rw [e, List.length_cons, Nat.pow_succ 256 (r.length + 1)]
    generalize 256 ^ (r.length + 1) = p
    omega
theorem strip_val : ∀ l, val (strip l) = val l
  | [] => rfl
  | [_] => rfl
  | x :: y :: r => by
    rw [strip]
    split
    · rename_i h
      rw [strip_val (y :: r), needless_val h]
    · rfl
theorem strip_min : ∀ l, needless (strip l) = false
  | [] => rfl
  | [_] => rfl
  | x :: y :: r => by
    rw [strip]
    split
    · exact strip_min (y :: r)
    · rename_i h
      simpa using h
theorem strip_ne : ∀ {l : List Nat}, l ≠ [] → strip l ≠ []
  | [_], _ => by simp [strip]
  | x :: y :: r, _ => by
    rw [strip]
    split
    · exact strip_ne (by simp)
    · simp
theorem strip_len : ∀ l, (strip l).length ≤ l.length
  | [] => Nat.le_refl _
  | [_] => Nat.le_refl _
  | x :: y :: r => by
    rw [strip]
    split
    · have := strip_len (y :: r); simp at this ⊢; omega
    · exact Nat.le_refl _
theorem strip_mem : ∀ {l : List Nat} {x : Nat}, x ∈ strip l → x ∈ l
  | [], _, h => h
  | [_], _, h => h
  | x :: y :: r, z, h => by
    rw [strip] at h
    split at h
    · exact List.mem_cons_of_mem _ (strip_mem h)
    · exact h

/-- A list of k + 1 bytes: the number lies in its reach; and, of as few as can be, in no shorter one's. -/
theorem val_lo {x : Nat} {r : List Nat} (h : ∀ z ∈ x :: r, z < 256) : -(128 * 256 ^ r.length : Int) ≤ val (x :: r) ∧ val (x :: r) < (128 * 256 ^ r.length : Int) := by
  have h1 := num_lt (l := r) (fun z hz => h z (by simp [hz]))
  have h2 := h x (by simp)
  have hp := pow_pos r.length
  have e : num (x :: r) = x * 256 ^ r.length + num r := rfl
  have hc : ((256 : Int) ^ r.length) = ((256 ^ r.length : Nat) : Int) := by simp
  rw [val, e, hc, Nat.pow_succ]
  generalize 256 ^ r.length = p at *
  split
  · rename_i hx
    have a1 : 128 * p ≤ x * p := Nat.mul_le_mul_right _ hx
    have a2 : (x + 1) * p ≤ 256 * p := Nat.mul_le_mul_right _ h2
    rw [Nat.add_mul, Nat.one_mul] at a2
    generalize x * p = q at *
    omega
  · rename_i hx
    have a2 : (x + 1) * p ≤ 128 * p := Nat.mul_le_mul_right _ (by omega)
    rw [Nat.add_mul, Nat.one_mul] at a2
    generalize x * p = q at *
    omega
theorem val_hi {x y : Nat} {r : List Nat} (h : ∀ z ∈ x :: y :: r, z < 256) (hm : needless (x :: y :: r) = false) : val (x :: y :: r) < -(128 * 256 ^ r.length : Int) ∨ (128 * 256 ^ r.length : Int) ≤ val (x :: y :: r) := by
  have h1 := num_lt (l := r) (fun z hz => h z (by simp [hz]))
  have h2 := h x (by simp)
  have h3 := h y (by simp)
  have hp := pow_pos r.length
  have e : num (x :: y :: r) = x * 256 ^ (r.length + 1) + (y * 256 ^ r.length + num r) := rfl
  have hc : ((256 : Int) ^ r.length) = ((256 ^ r.length : Nat) : Int) := by simp
  rw [needless, Bool.or_eq_false_iff, Bool.and_eq_false_iff, Bool.and_eq_false_iff] at hm
  simp only [decide_eq_false_iff_not] at hm
  obtain ⟨m1, m2⟩ := hm
  rw [val, e, hc, List.length_cons]
  simp only [Nat.pow_succ]
  generalize 256 ^ r.length = p at *
  have ex : x * (p * 256) = 256 * (x * p) := by rw [← Nat.mul_assoc, Nat.mul_comm]
  rw [ex]
  split
  · rename_i hx
    left
    rcases Nat.lt_or_ge x 255 with hx2 | hx2
    · have a1 : (x + 1) * p ≤ 255 * p := Nat.mul_le_mul_right _ hx2
      have a2 : (y + 1) * p ≤ 256 * p := Nat.mul_le_mul_right _ h3
      rw [Nat.add_mul, Nat.one_mul] at a1 a2
      generalize x * p = q at *
      generalize y * p = q2 at *
      omega
    · obtain rfl : x = 255 := by omega
      have hy : y < 128 := by rcases m2 with m | m <;> omega
      have a2 : (y + 1) * p ≤ 128 * p := Nat.mul_le_mul_right _ hy
      rw [Nat.add_mul, Nat.one_mul] at a2
      generalize y * p = q2 at *
      omega
  · rename_i hx
    right
    rcases Nat.eq_zero_or_pos x with hx2 | hx2
    · subst hx2
      have hy : 128 ≤ y := by rcases m1 with m | m <;> omega
      have a2 : 128 * p ≤ y * p := Nat.mul_le_mul_right _ hy
      generalize y * p = q2 at *
      omega
    · have a1 : 1 * p ≤ x * p := Nat.mul_le_mul_right _ hx2
      generalize x * p = q at *
      generalize y * p = q2 at *
      omega

theorem val_len {a b : List Nat} (ha : ∀ z ∈ a, z < 256) (hb : ∀ z ∈ b, z < 256) (na : a ≠ []) (nb : b ≠ []) (mb : needless b = false) (h : val a = val b) : b.length ≤ a.length := by
  match a, b, na, nb with
  | x :: r, y :: s, _, _ =>
    rcases Nat.lt_or_ge r.length s.length with hl | hl
    · match s, hl with
      | z :: s, hl =>
        exfalso
        have h1 := val_lo ha
        have h2 := val_hi hb mb
        have hp : 256 ^ r.length ≤ 256 ^ s.length := Nat.pow_le_pow_right (by decide) (by simp at hl; omega)
        have c1 : ((256 : Int) ^ r.length) = ((256 ^ r.length : Nat) : Int) := by simp
        have c2 : ((256 : Int) ^ s.length) = ((256 ^ s.length : Nat) : Int) := by simp
        rw [c1] at h1
        rw [c2] at h2
        rw [h] at h1
        generalize 256 ^ r.length = p at *
        generalize 256 ^ s.length = q at *
        omega
    · simp; omega
theorem val_inj {a b : List Nat} (ha : ∀ z ∈ a, z < 256) (hb : ∀ z ∈ b, z < 256) (na : a ≠ []) (nb : b ≠ []) (ma : needless a = false) (mb : needless b = false) (h : val a = val b) : a = b := by
  have hl : a.length = b.length := Nat.le_antisymm (val_len hb ha nb na ma h.symm) (val_len ha hb na nb mb h)
  match a, b, na, nb with
  | x :: r, y :: s, _, _ =>
    refine num_inj hl ha hb ?_
    have hl' : r.length = s.length := by simpa using hl
    have h1 := num_lt ha
    have h2 := num_lt hb
    rw [val, val, hl'] at h
    rw [List.length_cons, hl'] at h1
    rw [List.length_cons] at h2
    generalize num (x :: r) = p at *
    generalize num (y :: s) = q at *
    generalize 256 ^ (s.length + 1) = k at *
    split at h <;> split at h <;> omega

/-- What stands for an i64 in eight bytes. -/
theorem val_be8 (n : Int) (h1 : -9223372036854775808 ≤ n) (h2 : n ≤ 9223372036854775807) : val (be 8 (u64 n)) = n := by
  have hn := num_be (u64 n) 8
  have hb : be 8 (u64 n) = u64 n / 256 ^ 7 % 256 :: be 7 (u64 n) := rfl
  have hu : u64 n < 18446744073709551616 := by unfold u64; omega
  rw [Nat.mod_eq_of_lt (show u64 n < 256 ^ 8 from hu)] at hn
  rw [hb, val, ← hb, hn, be_len]
  have hx : u64 n / 256 ^ 7 % 256 = u64 n / 72057594037927936 := by
    rw [show (256 ^ 7 : Nat) = 72057594037927936 by decide]; omega
  have hk : ((256 ^ (7 + 1) : Nat) : Int) = 18446744073709551616 := by decide
  rw [hx, hk]
  have hv : (u64 n : Int) = n % 18446744073709551616 := by unfold u64; omega
  split <;> omega
theorem body_ne (n : Int) : body n ≠ [] := strip_ne (by simp [be])
theorem body_min (n : Int) : needless (body n) = false := strip_min _
theorem body_lt (n : Int) : ∀ x ∈ body n, x < 256 := fun _ hx => be_lt _ 8 _ (strip_mem hx)
theorem body_len (n : Int) : (body n).length ≤ 8 := Nat.le_trans (strip_len _) (Nat.le_of_eq (be_len _ 8))
theorem body_val (n : Int) (h1 : -9223372036854775808 ≤ n) (h2 : n ≤ 9223372036854775807) : val (body n) = n := by rw [body, strip_val, val_be8 n h1 h2]
theorem val_i64 {l : List Nat} (h : ∀ x ∈ l, x < 256) (hl : l.length ≤ 8) : -9223372036854775808 ≤ val l ∧ val l ≤ 9223372036854775807 := by
  match l, h, hl with
  | [], _, _ => simp [val]
  | x :: r, h, hl =>
    have h1 := val_lo h
    have hp : 256 ^ r.length ≤ 256 ^ 7 := Nat.pow_le_pow_right (by decide) (by simpa using hl)
    have c1 : ((256 : Int) ^ r.length) = ((256 ^ r.length : Nat) : Int) := by simp
    rw [show (256 ^ 7 : Nat) = 72057594037927936 by decide] at hp
    rw [c1] at h1
    generalize 256 ^ r.length = p at *
    omega
/-- Each number has just one body. -/
theorem body_of {l : List Nat} (h : ∀ x ∈ l, x < 256) (hn : l ≠ []) (hl : l.length ≤ 8) (hm : needless l = false) : body (val l) = l := by
  have hr := val_i64 h hl
  exact val_inj (body_lt _) h (body_ne _) hn (body_min _) hm (body_val _ hr.1 hr.2)
/-- What Get answers: the number, or the error's. -/
def get (l : List Nat) : Except Nat Int := if l = [] then .error 2 else if needless l = true then .error 4 else if 8 < l.length then .error 1 else .ok (val l)
theorem get_body (n : Int) (h1 : -9223372036854775808 ≤ n) (h2 : n ≤ 9223372036854775807) : get (body n) = .ok n := by
  rw [get, if_neg (body_ne n), if_neg (by rw [body_min]; simp), if_neg (Nat.not_lt.2 (body_len n)), body_val n h1 h2]
theorem get_ok {l : List Nat} {n : Int} (hl : ∀ x ∈ l, x < 256) (h : get l = .ok n) : body n = l ∧ val l = n := by
  rw [get] at h
  split at h
  · cases h
  · rename_i h1
    split at h
    · cases h
    · rename_i h2
      split at h
      · cases h
      · rename_i h3
        obtain rfl := Except.ok.inj h
        exact ⟨body_of hl h1 (by omega) (by simpa using h2), rfl⟩
/-- With one byte more of its sign ahead it is no body. -/
theorem get_more (n : Int) (h1 : -9223372036854775808 ≤ n) (h2 : n ≤ 9223372036854775807) : get ((if n < 0 then 255 else 0) :: body n) = .error 4 := by
  have hv := body_val n h1 h2
  have hb := body_lt n
  have hne := body_ne n
  rw [get, if_neg (by simp)]
  match hd : body n, hne with
  | x :: r, _ =>
    rw [hd] at hv hb
    have hx := hb x (by simp)
    have hlt := num_lt hb
    rw [if_pos]
    rw [val] at hv
    rw [List.length_cons] at hlt
    rw [needless, Bool.or_eq_true, Bool.and_eq_true, Bool.and_eq_true]
    simp only [decide_eq_true_eq]
    generalize num (x :: r) = p at *
    generalize 256 ^ (r.length + 1) = q at *
    split at hv
    · rw [if_pos (by omega)]; right; exact ⟨rfl, by omega⟩
    · rw [if_neg (by omega)]; left; exact ⟨rfl, by omega⟩
end Wh
end Go.Proofs.YtpjhkmdlegjdaaaDoor
