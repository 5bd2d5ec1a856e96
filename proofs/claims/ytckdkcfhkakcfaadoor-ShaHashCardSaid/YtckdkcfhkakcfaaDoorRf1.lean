/- The document's answer: a word turned, the first words; bits of ints. -/
import Derived.Test.YtckdkcfhkakcfaaDoorCo4
import Derived.Test.YtckdkcfhkakcfaaDoorShaP
namespace Go.Proofs.YtckdkcfhkakcfaaDoor
open Go.RowKit

theorem wrap_i64 (n : Nat) (h : n < 9223372036854775808) : IntKind.i64.wrap (n : Int) = n := by
  simp only [IntKind.wrap, IntKind.bits, IntKind.signed]
  simp
  omega
theorem ofInt_i64 (a : Nat) (ha : a < 9223372036854775808) : (BitVec.ofInt 64 (a : Int)).toNat = a := by
  rw [BitVec.ofInt_natCast, BitVec.toNat_ofNat]; exact Nat.mod_eq_of_lt (by omega)
theorem i64_and_nat (a b : Nat) (ha : a < 9223372036854775808) (hb : b < 9223372036854775808) : bits .and .i64 (a : Int) (b : Int) = ((a &&& b : Nat) : Int) := by
  have hx : a &&& b < 2 ^ 63 := Nat.and_lt_two_pow _ (by omega)
  show IntKind.i64.wrap ((BitVec.ofInt 64 (a : Int) &&& BitVec.ofInt 64 (b : Int)).toNat : Int) = _
  rw [BitVec.toNat_and, ofInt_i64 a ha, ofInt_i64 b hb, wrap_i64 _ hx]
theorem i64_or_nat (a b : Nat) (ha : a < 9223372036854775808) (hb : b < 9223372036854775808) : bits .or .i64 (a : Int) (b : Int) = ((a ||| b : Nat) : Int) := by
  have hx : a ||| b < 2 ^ 63 := Nat.or_lt_two_pow (by omega) (by omega)
  show IntKind.i64.wrap ((BitVec.ofInt 64 (a : Int) ||| BitVec.ofInt 64 (b : Int)).toNat : Int) = _
  rw [BitVec.toNat_or, ofInt_i64 a ha, ofInt_i64 b hb, wrap_i64 _ hx]
theorem i64_xor_nat (a b : Nat) (ha : a < 9223372036854775808) (hb : b < 9223372036854775808) : bits .xor .i64 (a : Int) (b : Int) = ((a ^^^ b : Nat) : Int) := by
  have hx : a ^^^ b < 2 ^ 63 := Nat.xor_lt_two_pow (by omega) (by omega)
  show IntKind.i64.wrap ((BitVec.ofInt 64 (a : Int) ^^^ BitVec.ofInt 64 (b : Int)).toNat : Int) = _
  rw [BitVec.toNat_xor, ofInt_i64 a ha, ofInt_i64 b hb, wrap_i64 _ hx]
theorem mask32 (a : Nat) : a &&& 4294967295 = a % 4294967296 := Nat.and_two_pow_sub_one_eq_mod a 32
theorem i64_mask (a : Nat) (ha : a < 9223372036854775808) : bits .and .i64 (a : Int) 4294967295 = ((a % 4294967296 : Nat) : Int) := by
  have := i64_and_nat a 4294967295 ha (by decide)
  rw [mask32] at this
  exact this

set_option maxHeartbeats 400000 in
theorem turn_any (x k : Nat) (hx : x < 4294967296) (hk : 1 < k) (hk2 : k < 32) (w : World) :
    Calls Tryd.prog 43 #[.int .i64 x, .int .i64 k] w fun e w' => e = .returned (.int .i64 (Sha.rotr x k : Nat)) ∧ w = w' := by
  obtain ⟨s, hs⟩ : ∃ s, s = 32 - k := ⟨_, rfl⟩
  have e1 : (32 - (k : Int)) = (s : Int) := by omega
  have s1 : s < 31 := by omega
  have hp : 2 ^ s ≤ 1073741824 := Nat.le_trans (Nat.pow_le_pow_right (by decide) (show s ≤ 30 by omega)) (by decide)
  have hm : x * 2 ^ s ≤ 4294967295 * 1073741824 := Nat.mul_le_mul (by omega) hp
  have hr : Hid (bits .or .i64 ((x : Int) / 2 ^ k) (bits .and .i64 ((x : Int) * 2 ^ s) 4294967295) = ((Sha.rotr x k : Nat) : Int)) := Lib.hid (by
    rw [show (x : Int) / 2 ^ k = ((x / 2 ^ k : Nat) : Int) by simp, show (x : Int) * 2 ^ s = ((x * 2 ^ s : Nat) : Int) by simp, i64_mask _ (by omega), i64_or_nat _ _ (by have := Sha.div_lt x k hx; omega) (by omega), Nat.or_comm, hs]
    rfl)
  have hw : Hid (wrap64 ((x : Int) * 2 ^ s) = (x : Int) * 2 ^ s) := Lib.hid (by
    rw [show (x : Int) * 2 ^ s = ((x * 2 ^ s : Nat) : Int) by simp]
    exact IntWalk.wrap64_in _ ⟨by omega, by omega⟩)
  clear hs hp hm
  go_enter Tryd.func43, Tryd.ntmps43
  go_wp2
  go_ret
  exact ⟨ret_int (by rw [hw.out]; exact hr.out), rfl⟩
def firstV : Array Value := (intL Sha.first.list).toArray
set_option maxHeartbeats 400000 in
theorem first_any (w : World) :
    Calls Tryd.prog 42 #[] w fun e w' => e = .returned (.slice (some ⟨w.heap.size, 0, none⟩) 8 8) ∧ w' = w.alloc (.cells firstV 3) := by
  go_enter Tryd.func42, Tryd.ntmps42
  go_wp2
  go_ret
  exact ⟨rfl, rfl⟩
end Go.Proofs.YtckdkcfhkakcfaaDoor
