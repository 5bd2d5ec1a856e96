import Derived.Test.YtpjhkmdlegjdaaaGreatDoorZw00
import Derived.Test.YtpjhkmdlegjdaaaGreatDoorChecked
import Derived.Test.YtpjhkmdlegjdaaaGreatDoorRows
import Derived.JoinedOf
import Derived.KernelRfl
import Derived.Lib.Strings
import Derived.Lib.Slices
import Derived.Lib.Small
import Derived.Lib.Walk
import Derived.Lib.BitFns
import Derived.Lib.ItoaNum
set_option linter.unusedVariables false
set_option linter.unusedSimpArgs false
namespace Go.Proofs.YtpjhkmdlegjdaaaGreatDoor
open Go
theorem and_both {a b : Bool} (h : a = true) (k : b = true) : (a && b) = true := by rw [h, k]; rfl
set_option maxRecDepth 100000 in
set_option maxHeartbeats 0 in
theorem derWrites_closed : joinedFacts Tryz.prog 3 Tryz.f3 Rows.derWritesSpec Rows.derWritesRow = true := by
  unfold joinedFacts
  repeat' with_reducible refine and_both ?_ ?_
  all_goals (as_aux_lemma => kernel_rfl)
end Go.Proofs.YtpjhkmdlegjdaaaGreatDoor
namespace Go.Proofs.YtpjhkmdlegjdaaaGreatDoor
set_option maxHeartbeats 4000000 in
set_option maxRecDepth 100000 in
theorem len64_int (x : Int) (w : World) (h0 : 0 ≤ x) (h1 : x ≤ 4294967295) :
    Calls Tryz.prog 169 #[.int .u64 x] w fun e w' => e = .returned (.int .i64 (Lib.bitLen x.toNat)) ∧ w' = w := by
  go_enter Tryz.func169, Tryz.ntmps169
  go_wp2
  all_goals (go_ret; refine ⟨congrArg Ending.returned (congrArg (Value.int IntKind.i64) ?_), rfl⟩)
  all_goals first
    | (rw [Lib.len8_of (x / 65536 / 256 % 256) (by omega) (by omega)]
       have e : (x / 65536 / 256 % 256).toNat = x.toNat / 16777216 := by omega
       have l := Lib.bitLen_le8' (x / 65536 / 256 % 256) (by omega) (by omega)
       have s := Lib.bitLen_shift24 x.toNat (by omega) (by omega)
       rw [e] at l ⊢
       omega)
    | (rw [Lib.len8_of (x / 65536 % 256) (by omega) (by omega)]
       have e : (x / 65536 % 256).toNat = x.toNat / 65536 := by omega
       have l := Lib.bitLen_le8' (x / 65536 % 256) (by omega) (by omega)
       have s := Lib.bitLen_shift16 x.toNat (by omega) (by omega)
       rw [e] at l ⊢
       omega)
    | (rw [Lib.len8_of (x / 256 % 256) (by omega) (by omega)]
       have e : (x / 256 % 256).toNat = x.toNat / 256 := by omega
       have l := Lib.bitLen_le8' (x / 256 % 256) (by omega) (by omega)
       have s := Lib.bitLen_shift8 x.toNat (by omega) (by omega)
       rw [e] at l ⊢
       omega)
    | (rw [Lib.len8_of (x % 256) (by omega) (by omega)]
       have e : (x % 256).toNat = x.toNat := by omega
       have l := Lib.bitLen_le8' (x % 256) (by omega) (by omega)
       rw [e] at l ⊢
       omega)
theorem len64_any (x : Nat) (hx : x < 4294967296) (w : World) :
    Calls Tryz.prog 169 #[.int .u64 x] w fun e w' => e = .returned (.int .i64 (Lib.bitLen x)) ∧ w' = w := by
  have := len64_int x w (by omega) (by omega)
  rwa [Int.toNat_natCast] at this
set_option maxRecDepth 100000 in
theorem blen_any (x : Nat) (hx : x < 4294967296) (w : World) :
    Calls Tryz.prog 135 #[.int .u64 x] w fun e w' => e = .returned (.int .i64 (Lib.bitLen x)) ∧ w' = w := by
  go_enter Tryz.func135, Tryz.ntmps135
  go_wp2_with (go_at_call 169; refine (len64_any x hx _).mono ?_; rintro e w' ⟨rfl, rfl⟩)
  go_ret
  exact ⟨rfl, rfl⟩
end Go.Proofs.YtpjhkmdlegjdaaaGreatDoor
namespace Go.Proofs.YtpjhkmdlegjdaaaGreatDoor
open Go.RowKit
namespace Pt
/-- A mask's body, as it is written. -/
theorem flags_two {m : Nat} (hm : m < 32768) : flags m = [8 * ((size m + 7) / 8) - size m, rev8 (m % 256), rev8 (m / 256)].take (1 + (size m + 7) / 8) := by
  unfold flags
  by_cases h0 : m = 0
  · subst h0; rfl
  · have a := size_lt m
    have b := size_pos h0
    rw [if_neg h0]
    by_cases h1 : m < 256
    · have d : size m ≤ 8 := size_le_of (k := 8) h1
      rw [if_pos h1, show (size m + 7) / 8 = 1 by omega, show m % 256 = m by omega]
      rfl
    · have d : size m ≤ 16 := size_le_of (k := 16) (by omega)
      have e : 9 ≤ size m := by
        have : 8 < size m := (Nat.pow_lt_pow_iff_right (a := 2) (by decide)).1 (by omega)
        omega
      rw [if_neg h1, show (size m + 7) / 8 = 2 by omega]
      rfl
/-- The library's count of bits is ours. -/
theorem bitLen_size {m : Nat} (hm : m < 32768) : Lib.bitLen m = size m := by
  by_cases h0 : m = 0
  · subst h0; decide
  · obtain ⟨a, b, c⟩ := Lib.bitLenAux_bounds 64 m (by omega) h0
    have e : Lib.bitLenAux 64 m = Lib.bitLen m := rfl
    rw [e] at a b c
    have h := size_is (n := m) (k := Lib.bitLen m - 1) b (by rw [show Lib.bitLen m - 1 + 1 = Lib.bitLen m by omega]; exact c)
    omega
end Pt
end Go.Proofs.YtpjhkmdlegjdaaaGreatDoor
