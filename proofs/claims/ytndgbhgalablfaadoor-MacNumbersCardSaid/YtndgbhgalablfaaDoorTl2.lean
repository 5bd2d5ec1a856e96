/- The walks of tlv's number and readLength. -/
import Derived.Test.YtndgbhgalablfaaDoorTl1
import Derived.Test.YtndgbhgalablfaaDoorSub
import Derived.Test.YtndgbhgalablfaaDoorNm1
import Derived.Test.YtndgbhgalablfaaDoorMs4
namespace Go.Proofs.YtndgbhgalablfaaDoor
open Go.RowKit

theorem or_sum (a x : Nat) (ha : a < 1099511627776) (hx : x < 256) : bits .or .i64 ((a : Int) * 256) (x : Int) = ((256 * a + x : Nat) : Int) := by
  have e : (a : Int) * 256 = ((256 * a : Nat) : Int) := by rw [Nat.mul_comm]; simp
  rw [e]
  have hw : ∀ n : Nat, n < 9223372036854775808 → (BitVec.ofInt 64 (n : Int)).toNat = n := fun n hn => by
    rw [BitVec.ofInt_natCast, BitVec.toNat_ofNat]; exact Nat.mod_eq_of_lt (by omega)
  show IntKind.i64.wrap ((BitVec.ofInt 64 ((256 * a : Nat) : Int) ||| BitVec.ofInt 64 (x : Int)).toNat : Int) = _
  rw [BitVec.toNat_or, hw _ (by omega), hw _ (by omega)]
  have e2 : 256 * a ||| x = 256 * a + x := (Nat.two_pow_add_eq_or_of_lt (i := 8) (b := x) (by omega) a).symm
  rw [e2]
  simp only [IntKind.wrap, IntKind.bits, IntKind.signed]
  simp
  omega

theorem num_take (l : List Nat) (k : Nat) (h : k < l.length) : Tl.num (l.take (k + 1)) = 256 * Tl.num (l.take k) + l.getD k 0 := by
  rw [List.take_add_one, List.getElem?_eq_getElem h, Tl.num, List.foldl_append, ← Tl.num]
  simp [List.getD_eq_getElem?_getD, List.getElem?_eq_getElem h]
theorem num_lt {l : List Nat} (hl : ∀ x ∈ l, x < 256) : ∀ k, k ≤ l.length → Tl.num (l.take k) < 256 ^ k
  | 0, _ => by simp [Tl.num]
  | k + 1, h => by
    have := num_lt hl k (by omega)
    have hx := getD_lt' hl k
    rw [num_take l k (by omega), Nat.pow_succ]
    omega

set_option maxRecDepth 100000 in
set_option maxHeartbeats 400000 in
theorem number_any (v : Value) (l : List Nat) (w : World) (hB : Bytes w v l) (hl : l.length ≤ 4) :
    Calls Tryd.prog 72 #[v] w fun e w' => e = .returned (.int .i64 (Tl.num l : Nat)) ∧ w' = w := by
  obtain ⟨hlt, a, sb, so, c, rfl, hc, ha, hcell⟩ := hB
  obtain ⟨n, hn⟩ : ∃ n, n = l.length := ⟨_, rfl⟩
  rw [← hn] at hc ha hcell hl ⊢
  have Ha := Lib.hid ha
  have Hcell := Lib.hid hcell
  have Hlt := Lib.hid hlt
  have HN := Lib.hid hn
  clear ha hcell hlt hn
  go_enter Tryd.func72, Tryd.ntmps72
  go_wp2
  go_loopw [3, 8] (fun x i wr => ∃ k : Nat, k ≤ n ∧ i = .int .i64 k ∧ x = .int .i64 (Tl.num (l.take k) : Nat) ∧ wr = w) (fun _ i _ => n - (intOf i).toNat)
  case atStart => exact ⟨0, Nat.zero_le _, rfl, rfl, rfl⟩
  case round =>
    obtain ⟨k, hk, rfl, rfl, rfl⟩ := hrel
    have hnum := num_lt Hlt.out k (by rw [← HN.out]; exact hk)
    have h4 : 256 ^ k ≤ 4294967296 := Nat.pow_le_pow_right (n := 256) (by decide) (show k ≤ 4 by omega)
    by_cases hkn : k < n
    · obtain ⟨rfl, ha2⟩ := Ha.out (by omega)
      have hc1 := Hcell.out k hkn
      have hx := getD_lt' Hlt.out k
      have HS := Lib.hid (num_take l k (by rw [← HN.out]; exact hkn))
      have hm : Tl.num (l.take k) < 4294967296 := by omega
      clear hnum h4
      generalize l.getD k 0 = x at *
      generalize Tl.num (l.take k) = m at *
      have hor := or_sum m x (by omega) hx
      have HO := Lib.hid hor
      clear hor
      go_wp2
      go_roundw
      case rel => exact ⟨k + 1, by omega, by go_num, by rw [HS.out, ← HO.out], trivial⟩
      case measure => simp [intOf]; omega
    · obtain rfl : k = n := by omega
      have e := Lib.hid (show l.take k = l from List.take_of_length_le (by rw [HN.out]; exact Nat.le_refl _))
      clear hnum h4
      go_wp2
      go_ret
      exact ⟨by rw [e.out]; rfl, rfl⟩
end Go.Proofs.YtndgbhgalablfaaDoor
