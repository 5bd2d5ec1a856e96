/- Subjects, pure: their parts, and what parts and texts are a subject's. -/
import Derived.Test.YtepjjgplnmkjgaaDoorNu3
namespace Go.Proofs.YtepjjgplnmkjgaaDoor
open Go.RowKit
namespace Na

def e0 : ByteArray := ⟨#[]⟩
def o1 : ByteArray := ⟨#[49, 46, 51, 46, 57, 57, 57, 57, 46, 49, 46, 49]⟩
def o2 : ByteArray := ⟨#[49, 46, 51, 46, 57, 57, 57, 57, 46, 49, 46, 50]⟩
def o3 : ByteArray := ⟨#[49, 46, 51, 46, 57, 57, 57, 57, 46, 49, 46, 51]⟩
abbrev Pr := ByteArray × ByteArray
def parts (s : Sb) : List Pr := (o1, word s.k) :: ((if s.sp = e0 then [] else [(o2, s.sp)]) ++ [(o3, s.nm)])
def firstOf (o : ByteArray) : List Pr → ByteArray
  | [] => e0
  | p :: r => if p.1 = o then p.2 else firstOf o r
def kindOf (w : ByteArray) : Int := if w = word 1 then 1 else if w = word 2 then 2 else if w = word 3 then 3 else if w = word 4 then 4 else if w = word 5 then 5 else 0
/-- What the program takes parts for. -/
def s0 (l : List Pr) : Sb := ⟨kindOf (firstOf o1 l), firstOf o2 l, firstOf o3 l⟩
/-- What the document takes parts for, of a kind. -/
def cand (k : Int) (l : List Pr) : Sb := ⟨k, if k = 2 ∧ 1 < l.length then (l.getD 1 (e0, e0)).2 else e0, if 0 < l.length then (l.getD (l.length - 1) (e0, e0)).2 else e0⟩

theorem strL_e0 : strL e0 = [] := by decide +kernel
theorem label_ne {s : ByteArray} (h : Pt.label (strL s) = true) : s ≠ e0 := by
  intro e
  rw [e, strL_e0] at h
  exact absurd h (by decide)
theorem label_no {l : List Nat} (h : Pt.label l = true) : ∀ x ∈ l, x ≠ 47 ∧ x ≠ 58 := by
  intro x hx
  unfold Pt.label at h
  simp only [Bool.and_eq_true, List.all_eq_true] at h
  have := h.2.2.2 x hx
  unfold Pt.okc at this
  simp at this
  omega
theorem right_facts {s : Sb} (h : right s = true) : (1 ≤ s.k ∧ s.k ≤ 5) ∧ Pt.label (strL s.nm) = true ∧ (s.k = 2 → Pt.label (strL s.sp) = true) ∧ (s.k ≠ 2 → s.sp = e0) ∧ (s.sp = e0 ↔ s.k ≠ 2) := by
  unfold right at h
  simp only [Bool.and_eq_true, decide_eq_true_eq] at h
  obtain ⟨h1, h2, h3⟩ := h
  have a1 : s.k = 2 → Pt.label (strL s.sp) = true := fun h => by rwa [if_pos h] at h3
  have a2 : s.k ≠ 2 → s.sp = e0 := fun h => by
    rw [if_neg h, decide_eq_true_eq] at h3
    exact h3
  exact ⟨h1, h2, a1, a2, fun h h' => label_ne (a1 h') h, a2⟩
theorem kind_word {k : Int} (h : 1 ≤ k ∧ k ≤ 5) : kindOf (word k) = k := by
  rcases (show k = 1 ∨ k = 2 ∨ k = 3 ∨ k = 4 ∨ k = 5 by omega) with rfl | rfl | rfl | rfl | rfl <;> decide +kernel
theorem kind_inv {w : ByteArray} (h : 1 ≤ kindOf w) : w = word (kindOf w) := by
  unfold kindOf at *
  repeat' split at h
  all_goals (first | omega | skip)
  all_goals simp_all
theorem kind_le (w : ByteArray) : 0 ≤ kindOf w ∧ kindOf w ≤ 5 := by
  unfold kindOf
  repeat' split
  all_goals omega
theorem o12 : o1 ≠ o2 := by decide +kernel
theorem o13 : o1 ≠ o3 := by decide +kernel
theorem o23 : o2 ≠ o3 := by decide +kernel
theorem s0_parts {s : Sb} (h : right s = true) : s0 (parts s) = s := by
  obtain ⟨h1, _, _, _, _⟩ := right_facts h
  obtain ⟨k, sp, nm⟩ := s
  have f1 : firstOf o1 (parts ⟨k, sp, nm⟩) = word k := by unfold parts firstOf; rw [if_pos rfl]
  have f2 : firstOf o2 (parts ⟨k, sp, nm⟩) = sp := by
    unfold parts
    by_cases e : sp = e0
    · rw [if_pos e, List.nil_append, firstOf, if_neg o12, firstOf, if_neg (fun h => o23 h.symm), firstOf, e]
    · rw [if_neg e, List.cons_append, List.nil_append, firstOf, if_neg o12, firstOf, if_pos rfl]
  have f3 : firstOf o3 (parts ⟨k, sp, nm⟩) = nm := by
    unfold parts
    by_cases e : sp = e0
    · rw [if_pos e, List.nil_append, firstOf, if_neg o13, firstOf, if_pos rfl]
    · rw [if_neg e, List.cons_append, List.nil_append, firstOf, if_neg o13, firstOf, if_neg o23, firstOf, if_pos rfl]
  unfold s0
  rw [f1, f2, f3, kind_word h1]
theorem cand_parts {s : Sb} (h : right s = true) : cand s.k (parts s) = s := by
  obtain ⟨_, _, _, h4, h5⟩ := right_facts h
  obtain ⟨k, sp, nm⟩ := s
  simp only at h4 h5 ⊢
  unfold cand parts
  by_cases e : sp = e0
  · have hk := h5.1 e
    rw [if_neg (fun h => hk h.1), if_pos (by simp [e]), e]
    simp
  · have hk : k = 2 := Decidable.byContradiction (fun h => e (h4 h))
    simp [e, hk]
/-- Parts are one right subject's at most. -/
theorem parts_one {a b : Sb} (ha : right a = true) (hb : right b = true) (h : parts a = parts b) : a = b := by
  rw [← s0_parts ha, h, s0_parts hb]

/-- A text up to a byte, what stands behind it, and whether it is there. -/
def cutN (c : Nat) : List Nat → List Nat × List Nat × Bool
  | [] => ([], [], false)
  | x :: r => if x = c then ([], r, true) else (x :: (cutN c r).1, (cutN c r).2.1, (cutN c r).2.2)
theorem cutN_hit {c : Nat} {b : List Nat} : ∀ {a : List Nat}, (∀ x ∈ a, x ≠ c) → cutN c (a ++ c :: b) = (a, b, true)
  | [], _ => by rw [List.nil_append, cutN, if_pos rfl]
  | x :: r, h => by
    rw [List.cons_append, cutN, if_neg (h x (by simp)), cutN_hit (fun y hy => h y (by simp [hy]))]
theorem cutN_spec {c : Nat} : ∀ (l : List Nat), (cutN c l).2.2 = true ∧ l = (cutN c l).1 ++ c :: (cutN c l).2.1 ∨ (cutN c l).2.2 = false ∧ (cutN c l).1 = l ∧ (cutN c l).2.1 = []
  | [] => .inr ⟨rfl, rfl, rfl⟩
  | x :: r => by
    rw [cutN]
    by_cases e : x = c
    · rw [if_pos e, e]; exact .inl ⟨rfl, rfl⟩
    · rw [if_neg e]
      rcases cutN_spec (c := c) r with ⟨h1, h2⟩ | ⟨h1, h2, h3⟩
      · exact .inl ⟨h1, by simp only [List.cons_append]; rw [← h2]⟩
      · exact .inr ⟨h1, by simp only; rw [h2], h3⟩
theorem cutN_lt {c : Nat} {l : List Nat} (h : ∀ x ∈ l, x < 256) : (∀ x ∈ (cutN c l).1, x < 256) ∧ ∀ x ∈ (cutN c l).2.1, x < 256 := by
  rcases cutN_spec (c := c) l with ⟨_, h2⟩ | ⟨_, h2, h3⟩
  · constructor
    · intro x hx; exact h x (by rw [h2]; simp [hx])
    · intro x hx; exact h x (by rw [h2]; simp [hx])
  · rw [h2, h3]; exact ⟨h, fun x hx => absurd hx (by simp)⟩
theorem strL_append (a b : ByteArray) : strL (a ++ b) = strL a ++ strL b := by
  unfold strL
  rw [ByteArray.data_append, Array.toList_append, List.map_append]
theorem strL_text (s : Sb) : strL (text s) = strL (word s.k) ++ 58 :: (if s.sp = e0 then strL s.nm else strL s.sp ++ 47 :: strL s.nm) := by
  have h1 : strL ⟨#[58]⟩ = [58] := by decide +kernel
  have h2 : strL ⟨#[47]⟩ = [47] := by decide +kernel
  unfold text
  by_cases e : s.sp = e0
  · have e' : s.sp = ⟨#[]⟩ := e
    rw [if_pos e', if_pos e, strL_append, strL_append, h1]
    simp
  · have e' : ¬ s.sp = ⟨#[]⟩ := e
    rw [if_neg e', if_neg e, strL_append, strL_append, strL_append, strL_append, h1, h2]
    simp
theorem word_no {k : Int} : ∀ x ∈ strL (word k), x ≠ 58 := by
  unfold word
  repeat' split
  all_goals decide +kernel
/-- What the program takes a text for. -/
def p0 (t : ByteArray) : Sb :=
  if kindOf (strOf (cutN 58 (strL t)).1) = 2 then ⟨2, strOf (cutN 47 (cutN 58 (strL t)).2.1).1, strOf (cutN 47 (cutN 58 (strL t)).2.1).2.1⟩
  else ⟨kindOf (strOf (cutN 58 (strL t)).1), e0, strOf (cutN 58 (strL t)).2.1⟩
theorem p0_text {s : Sb} (h : right s = true) : p0 (text s) = s := by
  obtain ⟨h1, h2, h3, h4, h5⟩ := right_facts h
  obtain ⟨k, sp, nm⟩ := s
  simp only at h1 h2 h3 h4 h5
  unfold p0
  rw [strL_text, cutN_hit word_no]
  simp only
  rw [strOf_strL, kind_word h1]
  by_cases e : k = 2
  · have hs : ¬ sp = e0 := fun h => h5.1 h e
    rw [if_pos e, if_neg hs, cutN_hit (fun x hx => (label_no (h3 e) x hx).1)]
    simp only
    rw [strOf_strL, strOf_strL, e]
  · rw [if_neg e, if_pos (h4 e), strOf_strL, h4 e]
theorem strOf_nil : strOf [] = e0 := rfl
theorem text_p0 {t : ByteArray} (h : right (p0 t) = true) : text (p0 t) = t := by
  apply strL_eq
  obtain ⟨h1, h2, h3, h4, h5⟩ := right_facts h
  have ht := strL_lt t
  obtain ⟨l1, l2⟩ := cutN_lt (c := 58) ht
  obtain ⟨m1, m2⟩ := cutN_lt (c := 47) l2
  rw [strL_text]
  have hne := label_ne h2
  unfold p0 at *
  rcases cutN_spec (c := 58) (strL t) with ⟨_, c2⟩ | ⟨_, c2, c3⟩
  · by_cases e : kindOf (strOf (cutN 58 (strL t)).1) = 2
    · simp only [if_pos e] at *
      have hw := kind_inv (w := strOf (cutN 58 (strL t)).1) (by omega)
      rw [e] at hw
      rw [← hw, strL_strOf l1, if_neg (fun h => h5.1 h rfl), strL_strOf m1, strL_strOf m2]
      rcases cutN_spec (c := 47) (cutN 58 (strL t)).2.1 with ⟨_, d2⟩ | ⟨_, d2, d3⟩
      · rw [← d2, ← c2]
      · rw [d3] at hne
        exact absurd rfl hne
    · simp only [if_neg e] at *
      have hw := kind_inv (w := strOf (cutN 58 (strL t)).1) h1.1
      rw [← hw, strL_strOf l1, if_pos trivial, strL_strOf l2, ← c2]
  · by_cases e : kindOf (strOf (cutN 58 (strL t)).1) = 2
    · simp only [if_pos e, c3] at hne
      exact absurd rfl hne
    · simp only [if_neg e, c3] at hne
      exact absurd rfl hne
/-- What the document takes a text for, of a kind whose word it begins with. -/
def pc (k : Int) (r : List Nat) : Sb := if k = 2 ∧ (cutN 47 r).2.2 = true then ⟨k, strOf (cutN 47 r).1, strOf (cutN 47 r).2.1⟩ else ⟨k, e0, strOf r⟩
theorem pc_text {s : Sb} (h : right s = true) : ∃ r, strL (text s) = strL (word s.k) ++ 58 :: r ∧ pc s.k r = s := by
  obtain ⟨h1, h2, h3, h4, h5⟩ := right_facts h
  refine ⟨_, strL_text s, ?_⟩
  obtain ⟨k, sp, nm⟩ := s
  simp only at h1 h2 h3 h4 h5 ⊢
  unfold pc
  by_cases e : k = 2
  · have hs : ¬ sp = e0 := fun h => h5.1 h e
    rw [if_neg hs, cutN_hit (fun x hx => (label_no (h3 e) x hx).1), if_pos ⟨e, rfl⟩]
    simp only
    rw [strOf_strL, strOf_strL]
  · rw [if_neg (fun h => e h.1), if_pos (h4 e), strOf_strL, h4 e]
theorem text_one {a b : Sb} (ha : right a = true) (hb : right b = true) (h : text a = text b) : a = b := by
  rw [← p0_text ha, h, p0_text hb]
end Na
end Go.Proofs.YtepjjgplnmkjgaaDoor
