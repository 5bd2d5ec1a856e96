/- The walk of the document's Get of whole numbers. -/
import Derived.Test.YtpjhkmdlegjdaaaDoorChecked
import Derived.WalkKit
import Derived.Lib.Hide
import Derived.Test.YtpjhkmdlegjdaaaDoorByt
import Derived.Test.YtpjhkmdlegjdaaaDoorAp
import Derived.Test.YtpjhkmdlegjdaaaDoorWh0
namespace Go.Proofs.YtpjhkmdlegjdaaaDoor
open Go.RowKit
namespace Wh
theorem num_snoc (c : Nat) : ∀ l, num (l ++ [c]) = num l * 256 + c
  | [] => by simp [num]
  | x :: r => by
    rw [List.cons_append, num, num_snoc c r, num, List.length_append, List.length_singleton, Nat.pow_succ]
    generalize 256 ^ r.length = p
    rw [Nat.add_mul, ← Nat.mul_assoc]
    omega
theorem num_take (l : List Nat) (k : Nat) (h : k < l.length) : num (l.take (k + 1)) = num (l.take k) * 256 + l.getD k 0 := by
  rw [List.take_add_one, List.getElem?_eq_getElem h, Option.toList_some, num_snoc]
  simp [List.getD_eq_getElem?_getD, List.getElem?_eq_getElem h]
/-- What the loop has behind k bytes, of 64 bits. -/
def acc (s : Bool) (l : List Nat) (k : Nat) : Nat := num (l.take k) + (if s then 18446744073709551616 - 256 ^ k else 0)
theorem acc_step (s : Bool) (l : List Nat) (k : Nat) (hl : ∀ x ∈ l, x < 256) (h : k < l.length) (h8 : l.length ≤ 8) : (acc s l k * 256 + l.getD k 0) % 18446744073709551616 = acc s l (k + 1) ∧ acc s l k < 18446744073709551616 := by
  have h1 := num_lt (l := l.take k) (fun x hx => hl x (List.mem_of_mem_take hx))
  have h2 := num_lt (l := l.take (k + 1)) (fun x hx => hl x (List.mem_of_mem_take hx))
  have hx : l.getD k 0 < 256 := by
    rw [List.getD_eq_getElem?_getD, List.getElem?_eq_getElem h]; exact hl _ (List.getElem_mem h)
  have ht := num_take l k h
  rw [List.length_take, Nat.min_eq_left (by omega)] at h1 h2
  have hp : 256 ^ (k + 1) ≤ 256 ^ 8 := Nat.pow_le_pow_right (by decide) (by omega)
  rw [show (256 ^ 8 : Nat) = 18446744073709551616 by decide] at hp
  have hk : 0 < 256 ^ k := Nat.pow_pos (by decide)
  unfold acc
  rw [ht] at h2 ⊢
  rw [Nat.pow_succ] at *
  generalize num (l.take k) = a at *
  generalize 256 ^ k = p at *
  generalize l.getD k 0 = x at *
  cases s
  · simp; omega
  · simp only [if_true]; omega
end Wh

theorem wrap64_i64 (n : Int) : wrap64 n = IntKind.i64.wrap n := by
  simp only [wrap64, IntKind.wrap, IntKind.bits, IntKind.signed]
  simp
  split <;> omega
theorem wrap_acc (m z : Nat) : IntKind.u64.wrap (IntKind.u64.wrap ((m : Int) * 256) + (z : Int)) = (((m * 256 + z) % 18446744073709551616 : Nat) : Int) := by
  simp only [IntKind.wrap, IntKind.bits, IntKind.signed]
  simp
theorem getD_small {l : List Nat} (h : ∀ x ∈ l, x < 256) (j : Nat) : l.getD j 0 < 256 := by
  rcases Nat.lt_or_ge j l.length with hj | hj
  · rw [List.getD_eq_getElem?_getD, List.getElem?_eq_getElem hj]; exact h _ (List.getElem_mem hj)
  · rw [List.getD_eq_getElem?_getD, List.getElem?_eq_none hj]; decide
/-- The bounds of 64 bits, once. -/
theorem acc_last (l : List Nat) (x : Nat) (r : List Nat) (e : l = x :: r) (hl : ∀ x ∈ l, x < 256) (h8 : l.length ≤ 8) : IntKind.i64.wrap ((Wh.acc (decide (127 < x)) l l.length : Nat) : Int) = Wh.val l := by
  subst e
  have h1 := Wh.num_lt hl
  have hp : 256 ^ (x :: r).length ≤ 256 ^ 8 := Nat.pow_le_pow_right (by decide) h8
  rw [show (256 ^ 8 : Nat) = 18446744073709551616 by decide] at hp
  have hv := Wh.val_i64 hl h8
  rw [Wh.val] at hv ⊢
  rw [Wh.acc, List.take_length]
  rw [List.length_cons] at *
  generalize Wh.num (x :: r) = p at *
  generalize 256 ^ (r.length + 1) = q at *
  simp only [IntKind.wrap, IntKind.bits, IntKind.signed]
  by_cases hx : 127 < x
  · rw [if_pos hx] at hv ⊢
    simp only [hx, decide_true, if_true]
    simp
    omega
  · rw [if_neg hx] at hv ⊢
    simp only [hx, decide_false]
    simp
    omega

end Go.Proofs.YtpjhkmdlegjdaaaDoor
