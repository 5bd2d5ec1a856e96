/- Figures of numbers, as plain functions. It names no program. -/
import Derived.Lib.Hide
namespace Go.Proofs.YtpjhkmdlegjdaaaDoor
namespace Wh

def digF : Nat → Nat → List Nat
  | 0, n => [48 + n % 10]
  | f + 1, n => if n < 10 then [48 + n] else digF f (n / 10) ++ [48 + n % 10]
/-- The figures of a number below 10^20. -/
def dig (n : Nat) : List Nat := digF 20 n
def pval (l : List Nat) : Nat := l.foldl (fun a c => a * 10 + (c - 48)) 0
def fig (c : Nat) : Bool := decide (48 ≤ c) && decide (c ≤ 57)
/-- Figures that are a number's, at most 18. -/
def figs (l : List Nat) : Bool := decide (1 ≤ l.length) && decide (l.length ≤ 18) && l.all fig && (decide (l.length = 1) || decide (l.head? ≠ some 48))

theorem digF_succ : ∀ (f n : Nat), n < 10 ^ (f + 1) → digF (f + 1) n = digF f n
  | 0, n, h => by
    have : n < 10 := by simpa using h
    rw [digF, digF, if_pos this, Nat.mod_eq_of_lt this]
  | f + 1, n, h => by
    have h' : n / 10 < 10 ^ (f + 1) := by rw [Nat.pow_succ] at h; omega
    show (if n < 10 then [48 + n] else digF (f + 1) (n / 10) ++ [48 + n % 10]) = if n < 10 then [48 + n] else digF f (n / 10) ++ [48 + n % 10]
    rw [digF_succ f _ h']
theorem dig_small {n : Nat} (h : n < 10) : dig n = [48 + n] := by rw [dig, digF, if_pos h]
theorem dig_step {n : Nat} (h : 10 ≤ n) (hn : n < 100000000000000000000) : dig n = dig (n / 10) ++ [48 + n % 10] := by
  rw [dig, digF, if_neg (by omega), dig, digF_succ 19 _ (by omega)]
theorem pval_snoc (l : List Nat) (c : Nat) : pval (l ++ [c]) = pval l * 10 + (c - 48) := by simp [pval]
theorem dig_ind {P : Nat → Prop} (h0 : ∀ n, n < 10 → P n) (h1 : ∀ n, 10 ≤ n → n < 100000000000000000000 → P (n / 10) → P n) : ∀ n, n < 100000000000000000000 → P n := by
  intro n
  induction n using Nat.strongRecOn with
  | _ n ih =>
    intro hn
    rcases Nat.lt_or_ge n 10 with h | h
    · exact h0 n h
    · exact h1 n h hn (ih (n / 10) (by omega) (by omega))
theorem pval_dig (n : Nat) (h : n < 100000000000000000000) : pval (dig n) = n := by
  refine dig_ind (P := fun n => pval (dig n) = n) (fun n hn => ?_) (fun n h10 hn ih => ?_) n h
  · rw [dig_small hn]; simp [pval]
  · rw [dig_step h10 hn, pval_snoc, ih]; omega
theorem dig_fig (n : Nat) (h : n < 100000000000000000000) : (dig n).all fig = true := by
  refine dig_ind (P := fun n => (dig n).all fig = true) (fun n hn => ?_) (fun n h10 hn ih => ?_) n h
  · rw [dig_small hn]; simp [fig]; omega
  · rw [dig_step h10 hn, List.all_append, ih]; simp [fig]; omega
theorem dig_ne (n : Nat) : dig n ≠ [] := by
  rw [dig, digF]
  split <;> simp
theorem dig_head (n : Nat) (h : n < 100000000000000000000) : (dig n).length = 1 ∧ n < 10 ∨ 2 ≤ (dig n).length ∧ 10 ≤ n ∧ (dig n).head? ≠ some 48 := by
  refine dig_ind (P := fun n => (dig n).length = 1 ∧ n < 10 ∨ 2 ≤ (dig n).length ∧ 10 ≤ n ∧ (dig n).head? ≠ some 48) (fun n hn => ?_) (fun n h10 hn ih => ?_) n h
  · left; rw [dig_small hn]; exact ⟨rfl, hn⟩
  · right
    rw [dig_step h10 hn]
    refine ⟨?_, h10, ?_⟩
    · have := List.length_pos_iff.2 (dig_ne (n / 10)); simp; omega
    · rcases ih with ⟨_, h2⟩ | ⟨_, _, h3⟩
      · rw [dig_small h2]; simp; omega
      · match hd : dig (n / 10), dig_ne (n / 10) with
        | x :: r, _ => rw [hd] at h3; simpa using h3
theorem pval_lt : ∀ (l : List Nat), l.all fig = true → pval l < 10 ^ l.length := by
  intro l
  induction hk : l.length generalizing l with
  | zero => rw [List.eq_nil_of_length_eq_zero hk]; simp [pval]
  | succ k ih =>
    intro h
    obtain ⟨t, c, rfl⟩ : ∃ t c, l = t ++ [c] := ⟨l.dropLast, l.getLast (by intro e; simp [e] at hk), (List.dropLast_concat_getLast _).symm⟩
    rw [List.all_append, Bool.and_eq_true] at h
    have h1 := ih t (by simpa using hk) h.1
    have h2 : 48 ≤ c ∧ c ≤ 57 := by simpa [fig] using h.2
    rw [pval_snoc, Nat.pow_succ]
    omega
theorem pval_pos : ∀ (l : List Nat), l.all fig = true → l ≠ [] → l.head? ≠ some 48 → 0 < pval l := by
  intro l
  induction hk : l.length generalizing l with
  | zero => intro _ h; exact absurd (List.eq_nil_of_length_eq_zero hk) h
  | succ k ih =>
    intro h hne hh
    obtain ⟨t, c, rfl⟩ : ∃ t c, l = t ++ [c] := ⟨l.dropLast, l.getLast hne, (List.dropLast_concat_getLast _).symm⟩
    rw [List.all_append, Bool.and_eq_true] at h
    have h2 : 48 ≤ c ∧ c ≤ 57 := by simpa [fig] using h.2
    rw [pval_snoc]
    match t, h with
    | [], _ =>
      have : c ≠ 48 := by simpa using hh
      simp [pval]; omega
    | x :: r, h =>
      have := ih (x :: r) (by simpa using hk) h.1 (by simp) (by simpa using hh)
      omega
/-- Figures with no needless nought are what their number makes. -/
theorem dig_pval : ∀ (l : List Nat), l.all fig = true → l ≠ [] → l.length ≤ 20 → (l.length = 1 ∨ l.head? ≠ some 48) → dig (pval l) = l := by
  intro l
  induction hk : l.length generalizing l with
  | zero => intro _ h; exact absurd (List.eq_nil_of_length_eq_zero hk) h
  | succ k ih =>
    intro h hne hl hh
    have hlt := pval_lt l h
    obtain ⟨t, c, rfl⟩ : ∃ t c, l = t ++ [c] := ⟨l.dropLast, l.getLast hne, (List.dropLast_concat_getLast _).symm⟩
    rw [List.all_append, Bool.and_eq_true] at h
    have h2 : 48 ≤ c ∧ c ≤ 57 := by simpa [fig] using h.2
    have hlt2 : pval (t ++ [c]) < 100000000000000000000 := Nat.lt_of_lt_of_le hlt (by rw [hk]; exact Nat.pow_le_pow_right (by decide) hl)
    rw [pval_snoc] at hlt2 ⊢
    match t, h, hk, hh with
    | [], _, _, _ =>
      rw [show pval [] = 0 from rfl, dig_small (by omega), show 48 + (0 * 10 + (c - 48)) = c by omega]
      rfl
    | x :: r, h, hk, hh =>
      have hx : (x :: r).head? ≠ some 48 := by
        rcases hh with hh | hh
        · simp at hk; omega
        · simpa using hh
      have hp := pval_pos (x :: r) h.1 (by simp) hx
      have hi := ih (x :: r) (by simpa using hk) h.1 (by simp) (by omega) (.inr hx)
      rw [dig_step (by omega) hlt2, show (pval (x :: r) * 10 + (c - 48)) / 10 = pval (x :: r) by omega, hi, show 48 + (pval (x :: r) * 10 + (c - 48)) % 10 = c by omega]
/-- What the document's Figures asks, and what one looks at. -/
theorem figs_iff (l : List Nat) : figs l = true ↔ (1 ≤ l.length ∧ l.length ≤ 18) ∧ l.all fig = true ∧ dig (pval l) = l := by
  rw [figs, Bool.and_eq_true, Bool.and_eq_true, Bool.and_eq_true, Bool.or_eq_true]
  simp only [decide_eq_true_eq]
  constructor
  · rintro ⟨⟨⟨h1, h2⟩, h3⟩, h4⟩
    exact ⟨⟨h1, h2⟩, h3, dig_pval l h3 (by intro e; simp [e] at h1) (by omega) h4⟩
  · rintro ⟨⟨h1, h2⟩, h3, h4⟩
    refine ⟨⟨⟨h1, h2⟩, h3⟩, ?_⟩
    have hlt := pval_lt l h3
    have h20 : pval l < 100000000000000000000 := Nat.lt_of_lt_of_le hlt (Nat.le_trans (Nat.pow_le_pow_right (by decide) h2) (by decide))
    rcases dig_head (pval l) h20 with ⟨h5, _⟩ | ⟨_, _, h5⟩
    · left; rwa [h4] at h5
    · right; rwa [h4] at h5
theorem dig_len18 {n : Nat} (h : n < 1000000000000000000) : (dig n).length ≤ 18 := by
  rcases Nat.lt_or_ge 18 (dig n).length with hl | hl
  · exfalso
    have h20 : n < 100000000000000000000 := by omega
    have hv := pval_dig n h20
    have hf := dig_fig n h20
    have key : ∀ (l : List Nat), l.all fig = true → l ≠ [] → l.head? ≠ some 48 → 10 ^ (l.length - 1) ≤ pval l := by
      intro l
      induction hk : l.length generalizing l with
      | zero => intro _ h; exact absurd (List.eq_nil_of_length_eq_zero hk) h
      | succ k ih =>
        intro h hne hh
        obtain ⟨t, c, rfl⟩ : ∃ t c, l = t ++ [c] := ⟨l.dropLast, l.getLast hne, (List.dropLast_concat_getLast _).symm⟩
        rw [List.all_append, Bool.and_eq_true] at h
        match t, h, hk, hh with
        | [], h, hk, hh =>
          have := pval_pos ([] ++ [c]) (by simpa using h.2) (by simp) hh
          have hk0 : k = 0 := by simpa using hk.symm
          subst hk0
          exact this
        | x :: r, h, hk, hh =>
          have h1 := ih (x :: r) (by simpa using hk) h.1 (by simp) (by simpa using hh)
          have hk' : k = r.length + 1 := by simp at hk; omega
          subst hk'
          rw [pval_snoc]
          simp only [Nat.add_sub_cancel] at h1 ⊢
          rw [Nat.pow_succ]
          omega
    rcases dig_head n h20 with ⟨h5, _⟩ | ⟨_, _, h5⟩
    · omega
    · have h6 := key (dig n) hf (dig_ne n) h5
      have h7 : 10 ^ 18 ≤ 10 ^ ((dig n).length - 1) := Nat.pow_le_pow_right (by decide) (by omega)
      rw [hv] at h6
      have : (10 ^ 18 : Nat) = 1000000000000000000 := by decide
      omega
  · exact hl
theorem figs_dig {n : Nat} (h : n < 1000000000000000000) : figs (dig n) = true ∧ pval (dig n) = n := by
  have hv := pval_dig n (by omega)
  exact ⟨(figs_iff _).2 ⟨⟨List.length_pos_iff.2 (dig_ne n), dig_len18 h⟩, dig_fig n (by omega), by rw [hv]⟩, hv⟩
end Wh
end Go.Proofs.YtpjhkmdlegjdaaaDoor
