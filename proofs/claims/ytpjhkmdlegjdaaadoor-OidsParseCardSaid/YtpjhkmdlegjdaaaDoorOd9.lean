/- Identifiers' bodies and arcs tell one another. It names no program. -/
import Derived.Test.YtpjhkmdlegjdaaaDoorOd8
import Derived.Test.YtpjhkmdlegjdaaaDoorOd7
namespace Go.Proofs.YtpjhkmdlegjdaaaDoor
namespace Od
/-- The bytes ahead of a number's last one. -/
def hiF : Nat → Nat → List Nat
  | 0, _ => []
  | f + 1, m => if m = 0 then [] else hiF f (m / 128) ++ [m % 128 + 128]
def hi (m : Nat) : List Nat := hiF 10 m
theorem hiF_enough : ∀ (f m : Nat), m < 128 ^ f → hiF (f + 1) m = hiF f m
  | 0, m, h => by
    have : m = 0 := by simpa using h
    subst this; rfl
  | f + 1, m, h => by
    rw [hiF]
    conv => rhs; rw [hiF]
    rw [hiF_enough f (m / 128) (by rw [Nat.pow_succ] at h; omega)]
theorem hi_zero : hi 0 = [] := rfl
theorem hi_step {m : Nat} (h0 : m ≠ 0) (h : m < 1180591620717411303424) : hi m = hi (m / 128) ++ [m % 128 + 128] := by
  rw [hi, hiF, if_neg h0, hi, hiF_enough 9 (m / 128) (by rw [show (128 ^ 9 : Nat) = 9223372036854775808 by decide]; omega)]
theorem septUpto_hi (n : Nat) (hn : n < 4398046511104) : ∀ k, k ≤ 5 → septUpto n k = hi (n / 128 ^ (6 - k))
  | 0, _ => by
    rw [septUpto, show n / 128 ^ (6 - 0) = 0 from Nat.div_eq_of_lt (by rw [show (128 ^ (6 - 0) : Nat) = 4398046511104 by decide]; exact hn), hi_zero]
  | k + 1, hk => by
    rw [septUpto, septUpto_hi n hn k (by omega), septStep, show 6 - (k + 1) = 5 - k by omega, show 6 - k = (5 - k) + 1 by omega]
    obtain ⟨M, hM⟩ : ∃ M, M = n / 128 ^ (5 - k) := ⟨_, rfl⟩
    have hM2 : n / 128 ^ (5 - k + 1) = M / 128 := by rw [Nat.pow_succ, ← Nat.div_div_eq_div_mul, hM]
    have hMb : M ≤ n := by rw [hM]; exact Nat.div_le_self _ _
    rw [hM2, ← hM]
    by_cases h0 : M = 0
    · subst h0
      rw [if_neg (by simp [hi_zero]; omega)]
    · rw [if_pos, if_pos (by omega), hi_step h0 (by omega)]
      by_cases h1 : M / 128 = 0
      · left; omega
      · right; left
        rw [hi_step h1 (by omega)]
        simp
theorem sept_hi (n : Nat) (hn : n < 4398046511104) : sept n = hi (n / 128) ++ [n % 128] := by
  rw [sept, septUpto, septUpto_hi n hn 5 (by omega), septStep]
  simp
def sval (l : List Nat) : Nat := l.foldl (fun a c => a * 128 + c % 128) 0
theorem sval_snoc (l : List Nat) (c : Nat) : sval (l ++ [c]) = sval l * 128 + c % 128 := by simp [sval]
theorem hi_facts : ∀ (m : Nat), m < 1180591620717411303424 → sval (hi m) = m ∧ (∀ c ∈ hi m, 128 ≤ c) ∧ (hi m).head? ≠ some 128 := by
  intro m
  induction m using Nat.strongRecOn with
  | _ m ih =>
    intro hm
    by_cases h0 : m = 0
    · subst h0
      rw [hi_zero]
      simp [sval]
    · obtain ⟨i1, i2, i3⟩ := ih (m / 128) (by omega) (by omega)
      rw [hi_step h0 hm]
      refine ⟨?_, ?_, ?_⟩
      · rw [sval_snoc, i1]; omega
      · intro c hc
        rcases List.mem_append.1 hc with h | h
        · exact i2 c h
        · simp at h; omega
      · by_cases h1 : m / 128 = 0
        · rw [h1, hi_zero]
          simp
          omega
        · intro e
          apply i3
          cases hh : hi (m / 128) with
          | nil =>
            rw [hi_step h1 (by omega)] at hh
            simp at hh
          | cons x r =>
            rw [hh] at e
            simpa using e
theorem sept_facts (n : Nat) (hn : n < 4398046511104) : ∃ h d, sept n = h ++ [d] ∧ (∀ c ∈ h, 128 ≤ c) ∧ d < 128 ∧ sval (h ++ [d]) = n ∧ (h ++ [d]).head? ≠ some 128 := by
  obtain ⟨i1, i2, i3⟩ := hi_facts (n / 128) (by omega)
  refine ⟨hi (n / 128), n % 128, sept_hi n hn, i2, by omega, by rw [sval_snoc, i1]; omega, ?_⟩
  cases hh : hi (n / 128) with
  | nil => simp; omega
  | cons x r =>
    rw [hh] at i3
    simpa using i3
/-- The first number's bytes, and what is behind them. -/
def piece : List Nat → Option (List Nat × List Nat)
  | [] => none
  | c :: r => if c < 128 then some ([c], r) else match piece r with
    | none => none
    | some (p, t) => some (c :: p, t)
theorem piece_of : ∀ (h : List Nat) (d : Nat) (t : List Nat), (∀ c ∈ h, 128 ≤ c) → d < 128 → piece (h ++ [d] ++ t) = some (h ++ [d], t)
  | [], d, t, _, hd => by simp [piece, hd]
  | c :: r, d, t, hh, hd => by
    have h1 := hh c (by simp)
    rw [List.cons_append, List.cons_append, piece, if_neg (by omega), piece_of r d t (fun x hx => hh x (by simp [hx])) hd]
def nums : Nat → Nat → List Nat → Except Nat (List Nat)
  | _, _, [] => .ok []
  | 0, _, _ :: _ => .error 0
  | f + 1, most, c :: l => match piece (c :: l) with
    | none => .error 2
    | some (p, t) => if p.head? = some 128 then .error 4 else if most < sval p then .error 1 else match nums f 2147483647 t with
      | .error k => .error k
      | .ok r => .ok (sval p :: r)
def firstOf (n : Nat) : Nat := if n < 40 then 0 else if n < 80 then 1 else 2
/-- What Get answers: the arcs, the error's number. -/
def get (l : List Nat) : Except Nat (List Int) :=
  match nums l.length 2147483727 l with
  | .error k => .error k
  | .ok [] => .error 2
  | .ok (n :: r) =>
    let a : List Int := (firstOf n : Nat) :: ((n - 40 * firstOf n : Nat) : Int) :: r.map fun (m : Nat) => (m : Int)
    if right a = true then .ok a else .error 1
theorem nums_sept (f most n : Nat) (t : List Nat) (hn : n < 4398046511104) (hm : n ≤ most) : nums (f + 1) most (sept n ++ t) = match nums f 2147483647 t with | .error k => .error k | .ok r => .ok (n :: r) := by
  obtain ⟨h, d, e, h1, h2, h3, h4⟩ := sept_facts n hn
  rw [e]
  obtain ⟨c, l, hcl⟩ : ∃ c l, h ++ [d] ++ t = c :: l := by
    cases h with
    | nil => exact ⟨d, t, rfl⟩
    | cons x r => exact ⟨x, r ++ [d] ++ t, rfl⟩
  rw [hcl, nums, ← hcl, piece_of h d t h1 h2]
  simp only []
  rw [if_neg h4, h3, if_neg (by omega)]
theorem sept_pos (n : Nat) (hn : n < 4398046511104) : 0 < (sept n).length := by rw [sept_hi n hn]; simp
theorem nums_rest : ∀ (r : List Int) (f : Nat), (∀ n ∈ r, 0 ≤ n ∧ n ≤ 2147483647) → (rest r).length ≤ f → nums f 2147483647 (rest r) = .ok (r.map Int.toNat)
  | [], f, _, _ => by cases f <;> rfl
  | n :: r, f, h, hf => by
    have h1 := h n (by simp)
    have hp := sept_pos n.toNat (by omega)
    rw [rest, List.length_append] at hf
    match f, hf with
    | 0, hf => omega
    | f + 1, hf =>
      rw [rest, nums_sept f _ n.toNat _ (by omega) (by omega), nums_rest r f (fun x hx => h x (by simp [hx])) (by omega)]
      rfl
/-- A right identifier's body is read as its arcs. -/
theorem get_put {l : List Int} (h : right l = true) : get (put l) = .ok l := by
  obtain ⟨⟨h2, _, hx0, hx2, hxy⟩, hall⟩ := (right_iff l).1 h
  match l, h2 with
  | x :: y :: r, _ =>
    have hx := hall x (by simp)
    have hy := hall y (by simp)
    simp only [List.getD_cons_zero, List.getD_cons_succ] at hx0 hx2 hxy
    have hb : 40 * x.toNat + y.toNat < 4398046511104 := by omega
    have hp := sept_pos (40 * x.toNat + y.toNat) hb
    have e : put (x :: y :: r) = sept (40 * x.toNat + y.toNat) ++ rest r := rfl
    obtain ⟨f, hf⟩ : ∃ f, (put (x :: y :: r)).length = f + 1 := ⟨(put (x :: y :: r)).length - 1, by rw [e, List.length_append]; omega⟩
    have hr := nums_rest r f (fun z hz => hall z (by simp [hz])) (by rw [e, List.length_append] at hf; omega)
    have hn : nums (put (x :: y :: r)).length 2147483727 (put (x :: y :: r)) = .ok ((40 * x.toNat + y.toNat) :: r.map Int.toNat) := by
      rw [hf, e, nums_sept f _ _ _ hb (by omega), hr]
    have hfo : firstOf (40 * x.toNat + y.toNat) = x.toNat := by
      unfold firstOf
      split
      · omega
      · split <;> omega
    have hmap : (r.map Int.toNat).map (fun (m : Nat) => (m : Int)) = r := by
      rw [List.map_map]
      conv => rhs; rw [← List.map_id r]
      apply List.map_congr_left
      intro z hz
      have := (hall z (by simp [hz])).1
      simp
      omega
    rw [get, hn]
    simp only []
    rw [hfo, hmap, show (40 * x.toNat + y.toNat - 40 * x.toNat) = y.toNat by omega, Int.toNat_of_nonneg hx.1, Int.toNat_of_nonneg hy.1, if_pos h]
end Od
end Go.Proofs.YtpjhkmdlegjdaaaDoor
