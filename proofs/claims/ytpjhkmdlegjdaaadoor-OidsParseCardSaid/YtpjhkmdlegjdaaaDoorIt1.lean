/- What is gathered of the numbers of a text, and of a body. It names no program. The first dot of a text and its pieces. It names no program. -/
import Derived.Test.YtpjhkmdlegjdaaaDoorOd9
import Derived.Test.YtpjhkmdlegjdaaaDoorSt1
import Derived.Test.YtpjhkmdlegjdaaaDoorOd8
import Derived.Lib.IndexBytes
namespace Go.Proofs.YtpjhkmdlegjdaaaDoor
namespace Od
/-- A part's number, or that it is none. -/
def numOf (p : List Nat) : Except Nat Int := match part p with | some n => .ok n | none => .error 4
/-- All numbers, up to the first error. -/
def gat : List (Except Nat Int) → Except Nat (List Int)
  | [] => .ok []
  | .error k :: _ => .error k
  | .ok n :: r => match gat r with | .error k => .error k | .ok l => .ok (n :: l)
theorem gat_ok : ∀ l : List Int, gat (l.map .ok) = .ok l
  | [] => rfl
  | n :: r => by rw [List.map_cons, gat, gat_ok r]
theorem gat_err : ∀ (l : List Int) (k : Nat) (t : List (Except Nat Int)), gat (l.map .ok ++ .error k :: t) = .error k
  | [], k, t => rfl
  | n :: r, k, t => by rw [List.map_cons, List.cons_append, gat, gat_err r]
theorem gat_arcs : ∀ ps : List (List Nat), gat (ps.map numOf) = match arcs ps with | none => .error 4 | some a => .ok a
  | [] => rfl
  | p :: r => by
    rw [List.map_cons, arcs, numOf]
    cases part p with
    | none => rfl
    | some n =>
      simp only []
      rw [gat, gat_arcs r]
      cases arcs r <;> rfl
theorem right_take (a : List Int) : right (a.take 17) = right a := by
  rcases Nat.lt_or_ge 17 a.length with h | h
  · have h1 : right a = false := by
      rw [← Bool.not_eq_true]; intro e
      have := ((right_iff a).1 e).1.2.1
      omega
    have h2 : right (a.take 17) = false := by
      rw [← Bool.not_eq_true]; intro e
      have := ((right_iff _).1 e).1.2.1
      rw [List.length_take] at this
      omega
    rw [h1, h2]
  · rw [List.take_of_length_le h]
theorem take_right {a : List Int} (h : right a = true) : a.take 17 = a := List.take_of_length_le (by have := ((right_iff a).1 h).1.2.1; omega)
/-- What Parse makes of what is gathered. -/
theorem parse_gat (s : List Nat) : parse s = match gat ((split s).map numOf) with | .error k => .error k | .ok a => if right (a.take 17) = true then .ok (a.take 17) else .error 1 := by
  rw [parse, gat_arcs]
  cases arcs (split s) with
  | none => rfl
  | some a =>
    simp only []
    rw [right_take]
    by_cases h : right a = true
    · rw [if_pos h, if_pos h, take_right h]
    · rw [if_neg h, if_neg h]
end Od
end Go.Proofs.YtpjhkmdlegjdaaaDoor
namespace Go.Proofs.YtpjhkmdlegjdaaaDoor
open Go.RowKit

theorem splitA_index : ∀ (l : List UInt8) (acc : List Nat),
    (Lib.indexByte l 46 = -1 ∧ Od.splitA acc (l.map (·.toNat)) = [acc ++ l.map (·.toNat)]) ∨
    ∃ k : Nat, Lib.indexByte l 46 = k ∧ k < l.length ∧ Od.splitA acc (l.map (·.toNat)) = (acc ++ (l.take k).map (·.toNat)) :: Od.splitA [] ((l.drop (k + 1)).map (·.toNat))
  | [], acc => .inl ⟨rfl, by simp [Od.splitA]⟩
  | b :: r, acc => by
    by_cases hb : b = 46
    · subst hb
      refine .inr ⟨0, by simp [Lib.indexByte], by simp, ?_⟩
      rw [List.map_cons, Od.splitA, if_pos (by decide)]
      simp
    · have hb2 : b.toNat ≠ 46 := fun e => hb (by rw [← UInt8.toNat_inj, e]; rfl)
      have hb3 : (b == 46) = false := by simp [hb]
      rcases splitA_index r (acc ++ [b.toNat]) with ⟨h1, h2⟩ | ⟨k, h1, h2, h3⟩
      · refine .inl ⟨by rw [Lib.indexByte, hb3, h1]; simp, ?_⟩
        rw [List.map_cons, Od.splitA, if_neg hb2, h2]
        simp
      · refine .inr ⟨k + 1, ?_, by simp; omega, ?_⟩
        · rw [Lib.indexByte, hb3, h1]
          have : ((k : Int) == -1) = false := by rw [beq_eq_false_iff_ne]; omega
          rw [this]
          simp
        · rw [List.map_cons, Od.splitA, if_neg hb2, h3]
          simp
theorem split_index (t : ByteArray) :
    (Lib.indexByte t.data.toList 46 = -1 ∧ Od.split (strL t) = [strL t]) ∨
    ∃ k : Nat, Lib.indexByte t.data.toList 46 = k ∧ k < t.size ∧ t.extract 0 k = strOf ((strL t).take k) ∧ Od.split (strL t) = (strL t).take k :: Od.split (strL (t.extract (k + 1) t.size)) := by
  have hsz : t.data.toList.length = t.size := by rw [Array.length_toList]; rfl
  rcases splitA_index t.data.toList [] with ⟨h1, h2⟩ | ⟨k, h1, h2, h3⟩
  · exact .inl ⟨h1, by simpa [Od.split, strL] using h2⟩
  · refine .inr ⟨k, h1, by omega, ?_, ?_⟩
    · rw [extract_seg]; simp [seg]
    · rw [Od.split]
      have : strL t = t.data.toList.map (·.toNat) := rfl
      rw [this, h3, extract_seg, strL_strOf]
      · rw [← strL_len t, seg_end, strL]
        simp [Od.split]
      · intro x hx
        exact strL_lt t x (List.mem_of_mem_drop (List.mem_of_mem_take hx))
end Go.Proofs.YtpjhkmdlegjdaaaDoor
