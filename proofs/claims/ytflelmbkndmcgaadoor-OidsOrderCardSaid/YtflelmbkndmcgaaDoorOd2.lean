/- The walk of the document's Compare. -/
import Derived.Test.YtflelmbkndmcgaaDoorIn2
import Derived.Test.YtflelmbkndmcgaaDoorOd8
namespace Go.Proofs.YtflelmbkndmcgaaDoor
open Go.RowKit

namespace Od
theorem cmp_at (l m : List Int) (k : Nat) (h1 : k < l.length) (h2 : k < m.length) : cmp (l.drop k) (m.drop k) = if l.getD k 0 < m.getD k 0 then -1 else if m.getD k 0 < l.getD k 0 then 1 else cmp (l.drop (k + 1)) (m.drop (k + 1)) := by
  rw [List.drop_eq_getElem_cons h1, List.drop_eq_getElem_cons h2, cmp]
  simp [List.getD_eq_getElem?_getD, h1, h2]
theorem cmp_end (l m : List Int) (k : Nat) (h : l.length ≤ k ∨ m.length ≤ k) (hk : k ≤ l.length) (hk2 : k ≤ m.length) : cmp (l.drop k) (m.drop k) = if l.length < m.length then -1 else if m.length < l.length then 1 else 0 := by
  rcases Nat.lt_or_ge k l.length with h1 | h1
  · have : m.drop k = [] := List.drop_eq_nil_of_le (by omega)
    rw [this, List.drop_eq_getElem_cons h1, cmp, if_neg (by omega), if_pos (by omega)]
  · have e1 : l.drop k = [] := List.drop_eq_nil_of_le h1
    rcases Nat.lt_or_ge k m.length with h2 | h2
    · rw [e1, List.drop_eq_getElem_cons h2, cmp, if_pos (by omega)]
    · rw [e1, List.drop_eq_nil_of_le h2, cmp, if_neg (by omega), if_neg (by omega)]
theorem cmp_val (l m : List Int) : cmp l m = -1 ∨ cmp l m = 0 ∨ cmp l m = 1 := by
  induction l generalizing m with
  | nil => cases m <;> simp [cmp]
  | cons x r ih =>
    cases m with
    | nil => simp [cmp]
    | cons y s =>
      rw [cmp]
      split
      · simp
      · split
        · simp
        · exact ih s
theorem cmp_neg (l m : List Int) : cmp m l = - cmp l m := by
  induction l generalizing m with
  | nil => cases m <;> simp [cmp]
  | cons x r ih =>
    cases m with
    | nil => simp [cmp]
    | cons y s =>
      rw [cmp, cmp]
      by_cases h1 : x < y
      · rw [if_neg (by omega), if_pos h1, if_pos h1]; simp
      · by_cases h2 : y < x
        · rw [if_pos h2, if_neg h1, if_pos h2]
        · rw [if_neg h2, if_neg h1, if_neg h1, if_neg h2, ih s]
theorem cmp_trans (l m n : List Int) (h1 : cmp l m ≤ 0) (h2 : cmp m n ≤ 0) : cmp l n ≤ 0 := by
  induction l generalizing m n with
  | nil => cases n <;> simp [cmp]
  | cons x r ih =>
    match m, n with
    | [], _ => simp [cmp] at h1
    | y :: s, [] => simp [cmp] at h2
    | y :: s, z :: t =>
      rw [cmp] at h1 h2 ⊢
      by_cases a1 : x < y
      · by_cases b1 : y < z
        · rw [if_pos (by omega)]; decide
        · by_cases b2 : z < y
          · rw [if_neg b1, if_pos b2] at h2; simp at h2
          · rw [if_pos (by omega)]; decide
      · by_cases a2 : y < x
        · rw [if_neg a1, if_pos a2] at h1; simp at h1
        · rw [if_neg a1, if_neg a2] at h1
          by_cases b1 : y < z
          · rw [if_pos (by omega)]; decide
          · by_cases b2 : z < y
            · rw [if_neg b1, if_pos b2] at h2; simp at h2
            · rw [if_neg b1, if_neg b2] at h2
              rw [if_neg (by omega), if_neg (by omega)]
              exact ih s t h1 h2
end Od

theorem drew2 (w : World) (a b : Nat) : ∃ q, (w.drewN a).drewN b = w.drewN q := ⟨a + b, by rw [World.drewN_drewN]⟩
theorem drew3 (w : World) (a b c : Nat) : ∃ q, ((w.drewN a).drewN b).drewN c = w.drewN q := ⟨a + (b + c), by rw [World.drewN_drewN, World.drewN_drewN]⟩

set_option maxRecDepth 100000 in
set_option maxHeartbeats 1000000 in
theorem refCompare_any (v1 v2 : Value) (l m : List Int) (w : World) (h1 : Ints w v1 l) (h2 : Ints w v2 m) (hl : l.length ≤ 1099511627776) (hm : m.length ≤ 1099511627776) :
    Calls Tryd.prog 21 #[v1, v2] w fun e w' => e = .returned (.int .i64 (Od.cmp l m)) ∧ ∃ q, w' = w.drewN q := by
  obtain ⟨a1, g1, o1, c1, rfl, k1, k2, k3⟩ := h1
  obtain ⟨a2, g2, o2, c2, rfl, m1, m2, m3⟩ := h2
  have K2 := Lib.hid k2
  have K3 := Lib.hid k3
  have M2 := Lib.hid m2
  have M3 := Lib.hid m3
  have HAt := Lib.hid (Od.cmp_at l m)
  have HEnd := Lib.hid (Od.cmp_end l m)
  obtain ⟨P, hP⟩ : ∃ P : Nat → Int, P = fun k => Od.cmp (l.drop k) (m.drop k) := ⟨_, rfl⟩
  have hAt2 : ∀ k, k < l.length → k < m.length → P k = if l.getD k 0 < m.getD k 0 then -1 else if m.getD k 0 < l.getD k 0 then 1 else P (k + 1) := fun k a b => by rw [hP]; exact Od.cmp_at l m k a b
  have hEnd2 : ∀ k, (l.length ≤ k ∨ m.length ≤ k) → k ≤ l.length → k ≤ m.length → P k = if l.length < m.length then -1 else if m.length < l.length then 1 else 0 := fun k a b c => by rw [hP]; exact Od.cmp_end l m k a b c
  have h0 : Od.cmp l m = P 0 := by rw [hP]; rfl
  have HP0 := Lib.hid h0
  obtain ⟨n, hn⟩ : ∃ n, n = l.length := ⟨_, rfl⟩
  obtain ⟨n', hn'⟩ : ∃ n, n = m.length := ⟨_, rfl⟩
  rw [← hn] at K2 K3 hl k1 hAt2 hEnd2 ⊢
  rw [← hn'] at M2 M3 hm m1 hAt2 hEnd2 ⊢
  have HA := Lib.hid hAt2
  have HE := Lib.hid hEnd2
  clear hn hn' k2 k3 m2 m3 HAt HEnd hP hAt2 hEnd2
  rw [h0]
  generalize Od.cmp l m = D at *
  clear h0
  go_enter Tryd.func21, Tryd.ntmps21
  go_wp2
  go_loopw [5] (fun i wr => ∃ k q : Nat, k ≤ n ∧ k ≤ n' ∧ i = .int .i64 k ∧ wr = w.drewN q ∧ P 0 = P k) (fun i _ => n - (intOf i).toNat)
  case atStart => exact ⟨0, 0, Nat.zero_le _, Nat.zero_le _, rfl, rfl, rfl⟩
  case round =>
    obtain ⟨k, q, hk, hk', rfl, rfl, hPk⟩ := hrel
    by_cases hkn : k < n
    · by_cases hkn' : k < n'
      · obtain ⟨rfl, _⟩ := K2.out (by omega)
        obtain ⟨rfl, _⟩ := M2.out (by omega)
        have f1 := K3.out k hkn
        have f2 := M3.out k hkn'
        have hat := HA.out k hkn hkn'
        rw [← hPk] at hat
        have HPk := Lib.hid hPk
        clear hPk
        generalize l.getD k 0 = x at *
        generalize m.getD k 0 = y at *
        by_cases hxy : x < y
        · rw [if_pos hxy] at hat
          go_wp2
          go_quiet (fail)
          go_wp2
          go_ret
          exact ⟨by first | rfl | (rw [hat]; done) | (rw [hat]; rfl) | simp [hat], drew2 _ _ _⟩
        · by_cases hyx : y < x
          · rw [if_neg hxy, if_pos hyx] at hat
            go_wp2
            go_quiet (fail)
            go_wp2
            go_quiet (fail)
            go_wp2
            go_ret
            exact ⟨by first | rfl | (rw [hat]; done) | (rw [hat]; rfl) | simp [hat], by first | exact drew2 _ _ _ | exact drew3 _ _ _ _⟩
          · rw [if_neg hxy, if_neg hyx] at hat
            have HAt3 := Lib.hid hat
            clear hat
            go_wp2
            go_quiet (fail)
            go_wp2
            go_quiet (fail)
            go_wp2
            go_roundw
            case rel => exact ⟨k + 1, _, by omega, by omega, by go_num, rfl, HAt3.out⟩
            case measure => simp [intOf]; omega
      · have he := HE.out k (.inr (by omega)) hk hk'
        have h1 : ¬ n < n' := by omega
        have h2 : n' < n := by omega
        rw [← hPk, if_neg h1, if_pos h2] at he
        clear hPk
        go_wp2
        go_ret
        exact ⟨by first | rfl | (rw [he]; done) | (rw [he]; rfl) | simp [he], _, rfl⟩
    · have he := HE.out k (.inl (by omega)) hk hk'
      rw [← hPk] at he
      clear hPk
      by_cases h1 : n < n'
      · rw [if_pos h1] at he
        go_wp2
        go_ret
        exact ⟨by first | rfl | (rw [he]; done) | (rw [he]; rfl) | simp [he], _, rfl⟩
      · have h2 : ¬ n' < n := by omega
        rw [if_neg h1, if_neg h2] at he
        go_wp2
        go_ret
        exact ⟨by first | rfl | (rw [he]; done) | (rw [he]; rfl) | simp [he], _, rfl⟩
end Go.Proofs.YtflelmbkndmcgaaDoor
