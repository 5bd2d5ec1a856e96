/- A body's numbers as they are gathered, whatever the body: pure. -/
import Derived.Test.YtpjhkmdlegjdaaaDoorIt1
namespace Go.Proofs.YtpjhkmdlegjdaaaDoor
namespace Od
/-- What the bytes of a number say. -/
def numB (most : Nat) (p : List Nat) : Except Nat Int :=
  if ¬ p.getD (p.length - 1) 0 < 128 then .error 2 else if p.getD 0 0 = 128 then .error 4 else if most < sval p then .error 1 else .ok ((sval p : Nat) : Int)
/-- How many bytes the first number has, and those. -/
def fst (l : List Nat) : Nat := match piece l with
  | none => l.length
  | some (p, _) => p.length
def seqs : Nat → Nat → List Nat → List (Except Nat Int)
  | _, _, [] => []
  | 0, _, _ :: _ => []
  | f + 1, most, c :: l => numB most ((c :: l).take (fst (c :: l))) :: seqs f 2147483647 ((c :: l).drop (fst (c :: l)))

theorem piece_parts : ∀ (l : List Nat) {p t : List Nat}, piece l = some (p, t) → ∃ h d, p = h ++ [d] ∧ l = p ++ t ∧ (∀ c ∈ h, ¬ c < 128) ∧ d < 128
  | [], p, t, h => by cases h
  | c :: r, p, t, h => by
    rw [piece] at h
    split at h
    · rename_i hc
      cases h
      exact ⟨[], c, rfl, rfl, by simp, hc⟩
    · rename_i hc
      split at h
      · cases h
      · rename_i p' t' hp
        cases h
        obtain ⟨h', d, rfl, rfl, h3, h4⟩ := piece_parts r hp
        refine ⟨c :: h', d, rfl, rfl, fun x hx => ?_, h4⟩
        rcases List.mem_cons.1 hx with e | e
        · rw [e]; exact hc
        · exact h3 x e
theorem piece_none : ∀ (l : List Nat), piece l = none → ∀ c ∈ l, ¬ c < 128
  | [], _, c, hc => by cases hc
  | x :: r, h, c, hc => by
    rw [piece] at h
    split at h
    · cases h
    · rename_i hx
      split at h
      · rename_i hp
        rcases List.mem_cons.1 hc with e | e
        · rw [e]; exact hx
        · exact piece_none r hp c e
      · cases h
theorem getD_mem {l : List Nat} {j : Nat} (h : j < l.length) : l.getD j 0 ∈ l := by
  rw [List.getD_eq_getElem?_getD, List.getElem?_eq_getElem h]; exact List.getElem_mem h
/-- The first number: it ends, or it does not. -/
theorem fst_facts {l : List Nat} (h0 : 0 < l.length) : 0 < fst l ∧ fst l ≤ l.length ∧ (∀ j, j + 1 < fst l → ¬ l.getD j 0 < 128) ∧ ((l.getD (fst l - 1) 0 < 128 ∧ ∃ p t, piece l = some (p, t) ∧ p = l.take (fst l) ∧ t = l.drop (fst l)) ∨ (¬ l.getD (fst l - 1) 0 < 128 ∧ piece l = none ∧ fst l = l.length ∧ ∀ j, j < l.length → ¬ l.getD j 0 < 128)) := by
  cases hp : piece l with
  | none =>
    have hf : fst l = l.length := by unfold fst; rw [hp]
    have ha : ∀ j, j < l.length → ¬ l.getD j 0 < 128 := fun j hj => piece_none l hp _ (getD_mem hj)
    rw [hf]
    exact ⟨h0, Nat.le_refl _, fun j hj => ha j (by omega), .inr ⟨ha _ (by omega), rfl, rfl, ha⟩⟩
  | some q =>
    obtain ⟨p, t⟩ := q
    have hf : fst l = p.length := by unfold fst; rw [hp]
    obtain ⟨h, d, hpe, hre, hlo, hhi⟩ := piece_parts _ hp
    have hpl : p.length = h.length + 1 := by rw [hpe, List.length_append]; rfl
    rw [hf]
    refine ⟨by omega, by rw [hre, List.length_append]; omega, fun j hj => ?_, .inl ⟨?_, p, t, rfl, by rw [hre, List.take_left], by rw [hre, List.drop_left]⟩⟩
    · have e : l.getD j 0 = h.getD j 0 := by
        rw [hre, hpe, List.getD_eq_getElem?_getD, List.getElem?_append_left (by rw [List.length_append]; omega), List.getElem?_append_left (by omega), List.getD_eq_getElem?_getD]
      rw [e]
      exact hlo _ (getD_mem (by omega))
    · have e : l.getD (p.length - 1) 0 = d := by
        rw [hpl, Nat.add_sub_cancel, hre, hpe, List.getD_eq_getElem?_getD, List.getElem?_append_left (by rw [List.length_append]; simp), List.getElem?_append_right (Nat.le_refl _)]
        simp
      rw [e]; exact hhi
theorem head_getD (p : List Nat) (h : 0 < p.length) : (p.head? = some 128) ↔ p.getD 0 0 = 128 := by
  cases p with
  | nil => simp at h
  | cons x r => simp
/-- The numbers, gathered. -/
theorem seqs_nums : ∀ (f most : Nat) (l : List Nat), l.length ≤ f → gat (seqs f most l) = (match nums f most l with
    | .error k => .error k
    | .ok ns => .ok (ns.map fun (m : Nat) => (m : Int)))
  | 0, most, [], _ => rfl
  | f + 1, most, [], _ => rfl
  | 0, most, c :: l, h => by simp at h
  | f + 1, most, c :: l, h => by
    obtain ⟨h0, h1, _, h3⟩ := fst_facts (l := c :: l) (by simp)
    have htl : ((c :: l).take (fst (c :: l))).length = fst (c :: l) := by rw [List.length_take]; omega
    have hlast : ((c :: l).take (fst (c :: l))).getD (fst (c :: l) - 1) 0 = (c :: l).getD (fst (c :: l) - 1) 0 := by
      rw [List.getD_eq_getElem?_getD, List.getElem?_take_of_lt (by omega), ← List.getD_eq_getElem?_getD]
    rw [seqs, nums]
    rcases h3 with ⟨h4, p, t, hp, hpe, hte⟩ | ⟨h4, hp, _⟩
    · rw [hp]
      have hpl : 0 < p.length := by rw [hpe, htl]; exact h0
      have hp4 : p.getD (p.length - 1) 0 < 128 := by rw [hpe, htl, hlast]; exact h4
      have htf : t.length ≤ f := by rw [hte, List.length_drop]; simp at h ⊢; omega
      rw [← hpe, ← hte]
      have ih := seqs_nums f 2147483647 t htf
      unfold numB
      rw [if_neg (fun h => h hp4)]
      simp only []
      by_cases h5 : p.getD 0 0 = 128
      · rw [if_pos h5, if_pos ((head_getD p hpl).2 h5)]; rfl
      · rw [if_neg h5, if_neg (fun e => h5 ((head_getD p hpl).1 e))]
        by_cases h6 : most < sval p
        · rw [if_pos h6, if_pos h6]; rfl
        · rw [if_neg h6, if_neg h6, gat, ih]
          cases nums f 2147483647 t <;> rfl
    · rw [hp]
      unfold numB
      rw [if_pos (by rw [htl, hlast]; exact h4)]
      rfl
end Od
end Go.Proofs.YtpjhkmdlegjdaaaDoor
