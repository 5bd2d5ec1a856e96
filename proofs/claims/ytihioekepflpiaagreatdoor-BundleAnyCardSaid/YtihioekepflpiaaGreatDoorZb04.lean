import Derived.Test.YtihioekepflpiaaGreatDoorZb00
import Derived.Test.YtihioekepflpiaaGreatDoorZb01
import Derived.Test.YtihioekepflpiaaGreatDoorZb02
import Derived.Shelf.Small.Bits
import Derived.Test.YtihioekepflpiaaGreatDoorProg
import Derived.Test.YtihioekepflpiaaGreatDoorChecked
import Derived.WalkKit
import Derived.Lib.Hide
set_option linter.unusedVariables false
set_option linter.unusedSimpArgs false
namespace Go.Proofs
open Go.Shelf
def Tryz.lays125_ren : Go.Shelf.Ren := ⟨fun | 125 => 69 | 128 => 95 | 129 => 96 | n => n, fun | 46 => 52 | 3 => 3 | 51 => 148 | 53 => 150 | 4 => 4 | 5 => 5 | 9 => 9 | n => n, fun | n => n⟩
theorem Tryz.lays125 : Go.Proofs.Lays.n125 Tryz.prog Tryz.lays125_ren := {
  mixed := by kernel_rfl
  f125 := Tryz.func69.trans (congrArg some (by kernel_rfl))
  f128 := Tryz.func95.trans (congrArg some (by kernel_rfl))
  f129 := Tryz.func96.trans (congrArg some (by kernel_rfl))
  t3 := Tryz.underlying3
  a3 := Tryz.isAgg3
  z3 := Tryz.sizeOf3
  v3 := Tryz.zeroValue3
  t4 := Tryz.underlying4
  a4 := Tryz.isAgg4
  z4 := Tryz.sizeOf4
  v4 := Tryz.zeroValue4
  t5 := Tryz.underlying5
  a5 := Tryz.isAgg5
  z5 := Tryz.sizeOf5
  v5 := Tryz.zeroValue5
  t9 := Tryz.underlying9
  a9 := Tryz.isAgg9
  z9 := Tryz.sizeOf9
  v9 := Tryz.zeroValue9
  t46 := Tryz.underlying52
  a46 := Tryz.isAgg52
  z46 := Tryz.sizeOf52
  v46 := Tryz.zeroValue52
  t51 := Tryz.underlying148
  a51 := Tryz.isAgg148
  z51 := Tryz.sizeOf148
  v51 := Tryz.zeroValue148
  t53 := Tryz.underlying150
  a53 := Tryz.isAgg150
  z53 := Tryz.sizeOf150
  v53 := Tryz.zeroValue150 }
end Go.Proofs
namespace Go.Proofs.YtihioekepflpiaaGreatDoor
theorem bitsLen_any (x : Int) (w : World) (h0 : 0 ≤ x) (h1 : x ≤ 18446744073709551615) :
    Calls Tryz.prog 69 #[.int .u64 x] w fun e w' => e = .returned (.int .i64 (Lib.bitLen x.toNat)) ∧ w' = w := Any.bits_Len Tryz.lays125 x w h0 h1
end Go.Proofs.YtihioekepflpiaaGreatDoor
namespace Go.Proofs.YtihioekepflpiaaGreatDoor
open Go.RowKit
theorem bitLen_lt : ∀ (j x : Nat), x < 18446744073709551616 → (Lib.bitLen x ≤ j ↔ x < 2 ^ j)
  | 0, x, hx => by
    rcases Nat.eq_zero_or_pos x with h | h
    · subst h
      rw [show Lib.bitLen 0 = 0 from by decide]; simp
    · rw [Lib.bitLen_half x (by omega) hx]; simp; omega
  | j + 1, x, hx => by
    rcases Nat.eq_zero_or_pos x with h | h
    · subst h
      exact ⟨fun _ => Nat.two_pow_pos _, fun _ => by rw [show Lib.bitLen 0 = 0 from by decide]; omega⟩
    · rw [Lib.bitLen_half x (by omega) hx, Nat.pow_succ]
      have := bitLen_lt j (x / 2) (by omega)
      omega
namespace Wh
/-- The number without its sign. -/
def mag (n : Int) : Nat := if n < 0 then (-n - 1).toNat else n.toNat
theorem mag_lt {n : Int} {p : Nat} (h1 : -(128 * p : Int) ≤ n) (h2 : n < (128 * p : Int)) : mag n < 128 * p := by
  unfold mag
  split <;> omega
theorem mag_ge {n : Int} {p : Nat} (h : n < -(128 * p : Int) ∨ (128 * p : Int) ≤ n) : 128 * p ≤ mag n := by
  unfold mag
  split <;> omega
theorem p256 (k : Nat) : 128 * 256 ^ k = 2 ^ (8 * k + 7) := by
  rw [Nat.pow_add, show (2 : Nat) ^ 7 = 128 from rfl, Nat.pow_mul, show (2 : Nat) ^ 8 = 256 from rfl, Nat.mul_comm]
theorem bits_of (n : Int) (l : List Nat) (b : Nat) (hb : ∀ j, b ≤ j ↔ mag n < 2 ^ j) (hn : l ≠ []) (hv : val l = n) (hlt : ∀ x ∈ l, x < 256) (hm : needless l = false) : l.length = b / 8 + 1 := by
  rcases l with _ | ⟨x, r⟩
  · exact absurd rfl hn
  · have hlo := val_lo hlt
    have hc : ((256 : Int) ^ r.length) = ((256 ^ r.length : Nat) : Int) := by simp
    rw [hv, hc] at hlo
    have a1 := mag_lt hlo.1 hlo.2
    rw [p256] at a1
    have b1 := (hb (8 * r.length + 7)).2 a1
    have b2 : 8 * r.length ≤ b := by
      rcases r with _ | ⟨y, s⟩
      · simp
      · have hhi := val_hi hlt hm
        have hc : ((256 : Int) ^ s.length) = ((256 ^ s.length : Nat) : Int) := by simp
        rw [hv, hc] at hhi
        have a2 := mag_ge hhi
        rw [p256] at a2
        have b3 := hb (8 * s.length + 7)
        have b4 : ¬ b ≤ 8 * s.length + 7 := fun h => Nat.lt_irrefl _ (Nat.lt_of_lt_of_le (b3.1 h) a2)
        rw [List.length_cons]
        clear a1 b1 hlo hhi a2 b3
        omega
    rw [List.length_cons]
    clear a1 hlo hb
    omega
theorem body_bits (n : Int) (h1 : -9223372036854775808 ≤ n) (h2 : n ≤ 9223372036854775807) : (body n).length = Lib.bitLen (mag n) / 8 + 1 ∧ mag n < 9223372036854775808 := by
  have hM : mag n < 9223372036854775808 := by unfold mag; split <;> omega
  exact ⟨bits_of n _ _ (fun j => bitLen_lt j _ (by omega)) (body_ne n) (body_val n h1 h2) (body_lt n) (body_min n), hM⟩
end Wh
theorem xor_wrap (m : Nat) (hm : m < 9223372036854775808) : IntKind.u64.wrap (bits .xor .i64 (if IntKind.i64.signed = true then -1 else 9223372036854775807) (-(m : Int) - 1)) = m := by
  have e : (if IntKind.i64.signed = true then (-1 : Int) else 9223372036854775807) = -1 := rfl
  have h : bits .xor .i64 (-1) (-(m : Int) - 1) = m := by
    show IntKind.i64.wrap ((BitVec.ofInt 64 (-1) ^^^ BitVec.ofInt 64 (-(m : Int) - 1)).toNat : Int) = _
    have h1 : BitVec.ofInt 64 (-1) = BitVec.allOnes 64 := rfl
    have h2 : BitVec.allOnes 64 ^^^ BitVec.ofInt 64 (-(m : Int) - 1) = ~~~ BitVec.ofInt 64 (-(m : Int) - 1) := BitVec.allOnes_xor
    have h3 : (BitVec.ofInt 64 (-(m : Int) - 1)).toNat = 18446744073709551615 - m := by
      rw [BitVec.toNat_ofInt]
      simp only [Nat.reducePow, Int.cast_ofNat_Int]
      omega
    rw [h1, h2, BitVec.toNat_not, h3]
    simp only [IntKind.wrap, IntKind.bits, IntKind.signed]
    simp
    omega
  rw [e, h]
  simp only [IntKind.wrap, IntKind.bits, IntKind.signed]
  simp
  omega
set_option maxRecDepth 100000 in
theorem wbytes_any (n : Int) (h1 : -9223372036854775808 ≤ n) (h2 : n ≤ 9223372036854775807) (w : World) :
    Calls Tryz.prog 79 #[.int .i64 n] w fun e w' => e = .returned (.int .i64 (Wh.body n).length) ∧ w' = w := by
  obtain ⟨hl, hm⟩ := Wh.body_bits n h1 h2
  have HL := Lib.hid hl
  obtain ⟨m, hmn⟩ : ∃ m, m = Wh.mag n := ⟨_, rfl⟩
  rw [← hmn] at HL hm
  have hb64 : Lib.bitLen m ≤ 64 := (bitLen_lt 64 m (Nat.lt_trans hm (by decide))).2 (Nat.lt_trans hm (by decide))
  obtain ⟨L, hL⟩ : ∃ L, L = (Wh.body n).length := ⟨_, rfl⟩
  rw [← hL] at HL hl ⊢
  clear hL
  have hB := fun w => bitsLen_any (m : Int) w (by omega) (by clear hb64 hl HL; omega)
  rw [Int.toNat_natCast] at hB
  generalize Lib.bitLen m = b at *
  have HB := Lib.hid hB
  clear hB
  by_cases hn : n < 0
  · have e1 : n = -(m : Int) - 1 := by rw [hmn, Wh.mag, if_pos hn]; omega
    subst e1
    clear hmn hl h1 h2
    go_enter Tryz.func79, Tryz.ntmps79
    go_wp2_with (go_at_call 69; rw [xor_wrap m hm]; refine (HB.out _).mono ?_; rintro e w' ⟨rfl, rfl⟩)
    go_ret
    refine ⟨ret_int ?_, rfl⟩
    rw [HL.out]
    omega
  · have e1 : n = (m : Int) := by rw [hmn, Wh.mag, if_neg hn]; omega
    subst e1
    clear hmn hl h1 h2
    go_enter Tryz.func79, Tryz.ntmps79
    go_wp2_with (go_at_call 69; refine (HB.out _).mono ?_; rintro e w' ⟨rfl, rfl⟩)
    go_ret
    refine ⟨ret_int ?_, rfl⟩
    rw [HL.out]
    omega
end Go.Proofs.YtihioekepflpiaaGreatDoor
