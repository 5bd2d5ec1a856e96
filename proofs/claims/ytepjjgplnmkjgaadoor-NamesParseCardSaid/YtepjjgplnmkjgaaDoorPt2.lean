/- Sets, pure: lists of bytes in their order. It names no program but through the order of bytes. -/
import Derived.Test.YtepjjgplnmkjgaaDoorCa1
namespace Go.Proofs.YtepjjgplnmkjgaaDoor
namespace Pt
theorem lex_irr : ∀ a, Cal.lex a a = false
  | [] => rfl
  | x :: r => by rw [Cal.lex, if_pos rfl]; exact lex_irr r
theorem lex_trans : ∀ a b c, Cal.lex a b = true → Cal.lex b c = true → Cal.lex a c = true
  | [], [], _, h, _ => by simp [Cal.lex] at h
  | [], _ :: _, [], _, h => by simp [Cal.lex] at h
  | [], _ :: _, _ :: _, _, _ => rfl
  | _ :: _, [], _, h, _ => by simp [Cal.lex] at h
  | _ :: _, _ :: _, [], _, h => by simp [Cal.lex] at h
  | x :: r, y :: s, z :: t, h1, h2 => by
    rw [Cal.lex] at h1 h2 ⊢
    by_cases e1 : x = y
    · subst e1
      rw [if_pos rfl] at h1
      by_cases e2 : x = z
      · subst e2
        rw [if_pos rfl] at h2 ⊢
        exact lex_trans r s t h1 h2
      · rw [if_neg e2] at h2 ⊢; exact h2
    · rw [if_neg e1, decide_eq_true_eq] at h1
      by_cases e2 : y = z
      · subst e2
        rw [if_neg (by omega), decide_eq_true_eq]; exact h1
      · rw [if_neg e2, decide_eq_true_eq] at h2
        rw [if_neg (by omega), decide_eq_true_eq]; omega
theorem lex_tri : ∀ a b, Cal.lex a b = true ∨ a = b ∨ Cal.lex b a = true
  | [], [] => .inr (.inl rfl)
  | [], _ :: _ => .inl rfl
  | _ :: _, [] => .inr (.inr rfl)
  | x :: r, y :: s => by
    by_cases e : x = y
    · subst e
      rcases lex_tri r s with h | h | h
      · left; rw [Cal.lex, if_pos rfl]; exact h
      · right; left; rw [h]
      · right; right; rw [Cal.lex, if_pos rfl]; exact h
    · rcases Nat.lt_or_gt_of_ne e with h | h
      · left; rw [Cal.lex, if_neg e, decide_eq_true_eq]; exact h
      · right; right; rw [Cal.lex, if_neg (fun e' => e e'.symm), decide_eq_true_eq]; exact h
/-- Not behind. -/
def le (a b : List Nat) : Prop := Cal.lex b a = false
instance (a b : List Nat) : Decidable (le a b) := by unfold le; infer_instance
theorem le_refl (a : List Nat) : le a a := lex_irr a
theorem le_of_lt {a b : List Nat} (h : Cal.lex a b = true) : le a b := by
  unfold le
  rw [← Bool.not_eq_true]
  intro h2
  have := lex_trans _ _ _ h h2
  rw [lex_irr] at this
  cases this
theorem le_trans {a b c : List Nat} (h1 : le a b) (h2 : le b c) : le a c := by
  unfold le at *
  rcases lex_tri a b with h | h | h
  · rcases lex_tri b c with k | k | k
    · exact le_of_lt (lex_trans _ _ _ h k)
    · subst k; exact h1
    · rw [k] at h2; cases h2
  · subst h; exact h2
  · rw [h] at h1; cases h1
theorem le_anti {a b : List Nat} (h1 : le a b) (h2 : le b a) : a = b := by
  unfold le at *
  rcases lex_tri a b with h | h | h
  · rw [h] at h2; cases h2
  · exact h
  · rw [h] at h1; cases h1
theorem not_le {a b : List Nat} : ¬ le a b ↔ Cal.lex b a = true := by unfold le; rw [Bool.not_eq_false]
def ins (x : List Nat) : List (List Nat) → List (List Nat)
  | [] => [x]
  | y :: r => if Cal.lex x y = true then x :: y :: r else y :: ins x r
/-- In order. -/
def sort : List (List Nat) → List (List Nat)
  | [] => []
  | x :: r => ins x (sort r)
def Sorted (l : List (List Nat)) : Prop := l.Pairwise le
theorem ins_perm (x : List Nat) : ∀ l, (ins x l).Perm (x :: l)
  | [] => List.Perm.refl _
  | y :: r => by
    rw [ins]
    split
    · exact List.Perm.refl _
    · exact ((ins_perm x r).cons y).trans (List.Perm.swap x y r)
theorem ins_sorted (x : List Nat) : ∀ l, Sorted l → Sorted (ins x l)
  | [], _ => by simp [ins, Sorted]
  | y :: r, h => by
    rw [ins]
    have h' := List.pairwise_cons.1 h
    split
    · rename_i hlt
      refine List.pairwise_cons.2 ⟨fun z hz => ?_, h⟩
      rcases List.mem_cons.1 hz with e | hz
      · subst e; exact le_of_lt hlt
      · exact le_trans (le_of_lt hlt) (h'.1 z hz)
    · rename_i hlt
      refine List.pairwise_cons.2 ⟨fun z hz => ?_, ins_sorted x r h'.2⟩
      rcases List.mem_cons.1 ((ins_perm x r).mem_iff.1 hz) with e | hz
      · subst e
        unfold le
        rw [← Bool.not_eq_true]
        exact hlt
      · exact h'.1 z hz
theorem sort_perm : ∀ l, (sort l).Perm l
  | [] => List.Perm.refl _
  | x :: r => (ins_perm x (sort r)).trans ((sort_perm r).cons x)
theorem sort_sorted : ∀ l, Sorted (sort l)
  | [] => List.Pairwise.nil
  | x :: r => ins_sorted x _ (sort_sorted r)
theorem sorted_unique {a b : List (List Nat)} (ha : Sorted a) (hb : Sorted b) (h : a.Perm b) : a = b :=
  List.Perm.eq_of_pairwise (le := le) (fun _ _ _ _ h1 h2 => le_anti h1 h2) ha hb h
/-- What is in order and the same is the list in order. -/
theorem sort_is {a l : List (List Nat)} (ha : Sorted a) (h : a.Perm l) : sort l = a := sorted_unique (sort_sorted l) ha ((sort_perm l).trans h.symm)
theorem sort_of_sorted {l : List (List Nat)} (h : Sorted l) : sort l = l := sort_is h (List.Perm.refl _)
theorem sorted_iff (l : List (List Nat)) : Sorted l ↔ sort l = l := ⟨sort_of_sorted, fun h => h ▸ sort_sorted l⟩
theorem sort_congr {a b : List (List Nat)} (h : a.Perm b) : sort a = sort b := sort_is (sort_sorted b) ((sort_perm b).trans h.symm)
theorem sort_len (l : List (List Nat)) : (sort l).length = l.length := (sort_perm l).length_eq
theorem sort_mem {l : List (List Nat)} {x : List Nat} : x ∈ sort l ↔ x ∈ l := (sort_perm l).mem_iff
theorem sort_turn (l : List (List Nat)) (k : Nat) : sort (l.drop k ++ l.take k) = sort l := by
  refine sort_congr ?_
  have h : (l.drop k ++ l.take k).Perm (l.take k ++ l.drop k) := List.perm_append_comm
  rwa [List.take_append_drop] at h
/-- One more: behind what isn't behind it. -/
theorem sort_snoc {l A B : List (List Nat)} {x : List Nat} (h : sort l = A ++ B) (hA : A = [] ∨ ∃ Z z, A = Z ++ [z] ∧ le z x) (hB : ∀ y ∈ B, Cal.lex x y = true) : sort (l ++ [x]) = A ++ x :: B := by
  have hs := sort_sorted l
  rw [h] at hs
  obtain ⟨s1, s2, s3⟩ := List.pairwise_append.1 hs
  have hA2 : ∀ y ∈ A, le y x := by
    intro y hy
    rcases hA with e | e
    · subst e; cases hy
    · obtain ⟨Z, z, rfl, e⟩ := e
      rcases List.mem_append.1 hy with hy | hy
      · exact le_trans ((List.pairwise_append.1 s1).2.2 y hy z (by simp)) e
      · rw [List.mem_singleton] at hy; subst hy; exact e
  refine sort_is ?_ ?_
  · refine List.pairwise_append.2 ⟨s1, List.pairwise_cons.2 ⟨fun y hy => le_of_lt (hB y hy), s2⟩, fun a ha b hb => ?_⟩
    rcases List.mem_cons.1 hb with e | hb
    · subst e; exact hA2 a ha
    · exact s3 a ha b hb
  · have h1 : (A ++ x :: B).Perm (x :: (A ++ B)) := List.perm_middle
    have h2 : (l ++ [x]).Perm (x :: l) := List.perm_append_comm
    refine h1.trans ((List.Perm.cons x ?_).trans h2.symm)
    rw [← h]
    exact sort_perm l
end Pt
end Go.Proofs.YtepjjgplnmkjgaaDoor
