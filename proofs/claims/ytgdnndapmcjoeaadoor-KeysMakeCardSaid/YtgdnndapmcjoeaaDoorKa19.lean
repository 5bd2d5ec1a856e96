import Derived.Test.YtgdnndapmcjoeaaDoorKa00
import Derived.Test.YtgdnndapmcjoeaaDoorKa15
import Derived.Test.YtgdnndapmcjoeaaDoorKa18
import Derived.Laws.AppendOwnNone
namespace Go.Proofs.YtgdnndapmcjoeaaDoor
open Go.RowKit
theorem wrap_i64 (n : Nat) (h : n < 9223372036854775808) : IntKind.i64.wrap (n : Int) = n := by
  simp only [IntKind.wrap, IntKind.bits, IntKind.signed]
  simp
  omega
theorem ofInt_i64 (a : Nat) (ha : a < 9223372036854775808) : (BitVec.ofInt 64 (a : Int)).toNat = a := by
  rw [BitVec.ofInt_natCast, BitVec.toNat_ofNat]; exact Nat.mod_eq_of_lt (by omega)
theorem i64_and_nat (a b : Nat) (ha : a < 9223372036854775808) (hb : b < 9223372036854775808) : bits .and .i64 (a : Int) (b : Int) = ((a &&& b : Nat) : Int) := by
  have hx : a &&& b < 2 ^ 63 := Nat.and_lt_two_pow _ (by omega)
  show IntKind.i64.wrap ((BitVec.ofInt 64 (a : Int) &&& BitVec.ofInt 64 (b : Int)).toNat : Int) = _
  rw [BitVec.toNat_and, ofInt_i64 a ha, ofInt_i64 b hb, wrap_i64 _ hx]
theorem i64_or_nat (a b : Nat) (ha : a < 9223372036854775808) (hb : b < 9223372036854775808) : bits .or .i64 (a : Int) (b : Int) = ((a ||| b : Nat) : Int) := by
  have hx : a ||| b < 2 ^ 63 := Nat.or_lt_two_pow (by omega) (by omega)
  show IntKind.i64.wrap ((BitVec.ofInt 64 (a : Int) ||| BitVec.ofInt 64 (b : Int)).toNat : Int) = _
  rw [BitVec.toNat_or, ofInt_i64 a ha, ofInt_i64 b hb, wrap_i64 _ hx]
theorem i64_xor_nat (a b : Nat) (ha : a < 9223372036854775808) (hb : b < 9223372036854775808) : bits .xor .i64 (a : Int) (b : Int) = ((a ^^^ b : Nat) : Int) := by
  have hx : a ^^^ b < 2 ^ 63 := Nat.xor_lt_two_pow (by omega) (by omega)
  show IntKind.i64.wrap ((BitVec.ofInt 64 (a : Int) ^^^ BitVec.ofInt 64 (b : Int)).toNat : Int) = _
  rw [BitVec.toNat_xor, ofInt_i64 a ha, ofInt_i64 b hb, wrap_i64 _ hx]
theorem mask32 (a : Nat) : a &&& 4294967295 = a % 4294967296 := Nat.and_two_pow_sub_one_eq_mod a 32
theorem i64_mask (a : Nat) (ha : a < 9223372036854775808) : bits .and .i64 (a : Int) 4294967295 = ((a % 4294967296 : Nat) : Int) := by
  have := i64_and_nat a 4294967295 ha (by decide)
  rw [mask32] at this
  exact this
set_option maxHeartbeats 400000 in
theorem turn_any (x k : Nat) (hx : x < 4294967296) (hk : 1 < k) (hk2 : k < 32) (w : World) :
    Calls Tryd.prog 64 #[.int .i64 x, .int .i64 k] w fun e w' => e = .returned (.int .i64 (Sha.rotr x k : Nat)) ∧ w = w' := by
  obtain ⟨s, hs⟩ : ∃ s, s = 32 - k := ⟨_, rfl⟩
  have e1 : (32 - (k : Int)) = (s : Int) := by omega
  have s1 : s < 31 := by omega
  have hp : 2 ^ s ≤ 1073741824 := Nat.le_trans (Nat.pow_le_pow_right (by decide) (show s ≤ 30 by omega)) (by decide)
  have hm : x * 2 ^ s ≤ 4294967295 * 1073741824 := Nat.mul_le_mul (by omega) hp
  have hr : Hid (bits .or .i64 ((x : Int) / 2 ^ k) (bits .and .i64 ((x : Int) * 2 ^ s) 4294967295) = ((Sha.rotr x k : Nat) : Int)) := Lib.hid (by
    rw [show (x : Int) / 2 ^ k = ((x / 2 ^ k : Nat) : Int) by simp, show (x : Int) * 2 ^ s = ((x * 2 ^ s : Nat) : Int) by simp, i64_mask _ (by omega), i64_or_nat _ _ (by have := Sha.div_lt x k hx; omega) (by omega), Nat.or_comm, hs]
    rfl)
  have hw : Hid (wrap64 ((x : Int) * 2 ^ s) = (x : Int) * 2 ^ s) := Lib.hid (by
    rw [show (x : Int) * 2 ^ s = ((x * 2 ^ s : Nat) : Int) by simp]
    exact IntWalk.wrap64_in _ ⟨by omega, by omega⟩)
  clear hs hp hm
  go_enter Tryd.func64, Tryd.ntmps64
  go_wp2
  go_ret
  exact ⟨ret_int (by rw [hw.out]; exact hr.out), rfl⟩
def firstV : Array Value := (intL Sha.first.list).toArray
set_option maxHeartbeats 400000 in
theorem first_any (w : World) :
    Calls Tryd.prog 63 #[] w fun e w' => e = .returned (.slice (some ⟨w.heap.size, 0, none⟩) 8 8) ∧ w' = w.alloc (.cells firstV 3) := by
  go_enter Tryd.func63, Tryd.ntmps63
  go_wp2
  go_ret
  exact ⟨rfl, rfl⟩
end Go.Proofs.YtgdnndapmcjoeaaDoor
namespace Go.Proofs.YtgdnndapmcjoeaaDoor
open Go.RowKit
def loopsOf : Code → List Code
  | .seq a b => loopsOf a ++ loopsOf b
  | .cond _ a b => loopsOf a ++ loopsOf b
  | .block _ c => loopsOf c
  | .loop c => c :: loopsOf c
  | .scope c => loopsOf c
  | _ => []
noncomputable def refLoop (k : Nat) : Code := (((Tryd.f49.body.map loopsOf).getD [])[k]?).getD .skip
def bytesL (ws : List Nat) : List Value := ws.map fun (x : Nat) => Value.int .u8 (x : Int)
end Go.Proofs.YtgdnndapmcjoeaaDoor
namespace Go.Proofs.YtgdnndapmcjoeaaDoor
open Go.RowKit
namespace Sha
theorem not_bit (e i : Nat) (he : e < 4294967296) : (4294967295 - e).testBit i = (decide (i < 32) && !e.testBit i) := by
  rw [show 4294967295 - e = 2 ^ 32 - (e + 1) by omega, Nat.testBit_two_pow_sub_succ (by omega)]
theorem ch_or (e f g : Nat) (he : e < 4294967296) : (e &&& f) ||| ((4294967295 - e) &&& g) = ch e f g := by
  unfold ch
  apply Nat.eq_of_testBit_eq
  intro i
  rw [Nat.testBit_or, Nat.testBit_xor, Nat.testBit_and, Nat.testBit_and, not_bit e i he]
  cases e.testBit i <;> cases f.testBit i <;> cases g.testBit i <;> cases decide (i < 32) <;> rfl
theorem maj_or (a b c : Nat) : ((a &&& b) ||| (a &&& c)) ||| (b &&& c) = maj a b c := by
  unfold maj
  apply Nat.eq_of_testBit_eq
  intro i
  rw [Nat.testBit_or, Nat.testBit_or, Nat.testBit_xor, Nat.testBit_xor, Nat.testBit_and, Nat.testBit_and, Nat.testBit_and]
  cases a.testBit i <;> cases b.testBit i <;> cases c.testBit i <;> rfl
theorem or_add (i a b : Nat) (h : b < 2 ^ i) : a * 2 ^ i ||| b = a * 2 ^ i + b := by
  rw [Nat.mul_comm, Nat.two_pow_add_eq_or_of_lt h]
theorem word_sum (b : List Nat) (i : Nat) (hb : ∀ j, b.getD j 0 < 256) : word b i = b.getD (4 * i) 0 * 16777216 + b.getD (4 * i + 1) 0 * 65536 + b.getD (4 * i + 2) 0 * 256 + b.getD (4 * i + 3) 0 := by
  have h0 := hb (4 * i); have h1 := hb (4 * i + 1); have h2 := hb (4 * i + 2); have h3 := hb (4 * i + 3)
  unfold word
  generalize b.getD (4 * i) 0 = x0 at *
  generalize b.getD (4 * i + 1) 0 = x1 at *
  generalize b.getD (4 * i + 2) 0 = x2 at *
  generalize b.getD (4 * i + 3) 0 = x3 at *
  have e1 := or_add 24 x0 (x1 * 65536) (by omega)
  have e2 := or_add 16 (x0 * 256 + x1) (x2 * 256) (by omega)
  have e3 := or_add 8 (x0 * 65536 + x1 * 256 + x2) x3 (by omega)
  simp only [Nat.reducePow] at e1 e2 e3
  rw [e1, show x0 * 16777216 + x1 * 65536 = (x0 * 256 + x1) * 65536 by omega, e2, show (x0 * 256 + x1) * 65536 + x2 * 256 = (x0 * 65536 + x1 * 256 + x2) * 256 by omega, e3]
end Sha
theorem i64_ch (e f g : Nat) (he : e < 4294967296) (hf : f < 4294967296) (hg : g < 4294967296) :
    bits .or .i64 (bits .and .i64 (e : Int) (f : Int)) (bits .and .i64 (4294967295 - (e : Int)) (g : Int)) = ((Sha.ch e f g : Nat) : Int) := by
  rw [show (4294967295 - (e : Int)) = ((4294967295 - e : Nat) : Int) by omega, i64_and_nat _ _ (by omega) (by omega), i64_and_nat _ _ (by omega) (by omega),
    i64_or_nat _ _ (by have := Sha.and_lt (b := f) he; omega) (by have := Sha.and_lt (a := 4294967295 - e) (b := g) (by omega); omega), Sha.ch_or e f g he]
theorem i64_maj (a b c : Nat) (ha : a < 4294967296) (hb : b < 4294967296) (hc : c < 4294967296) :
    bits .or .i64 (bits .or .i64 (bits .and .i64 (a : Int) (b : Int)) (bits .and .i64 (a : Int) (c : Int))) (bits .and .i64 (b : Int) (c : Int)) = ((Sha.maj a b c : Nat) : Int) := by
  have h1 := Sha.and_lt (b := b) ha
  have h2 := Sha.and_lt (b := c) ha
  have h3 := Sha.and_lt (b := c) hb
  have h4 : (a &&& b) ||| (a &&& c) < 4294967296 := Nat.or_lt_two_pow (n := 32) h1 h2
  rw [i64_and_nat _ _ (by omega) (by omega), i64_and_nat _ _ (by omega) (by omega), i64_and_nat _ _ (by omega) (by omega), i64_or_nat _ _ (by omega) (by omega), i64_or_nat _ _ (by omega) (by omega), Sha.maj_or]
theorem i64_high (x i j k : Nat) (hx : x < 4294967296) : bits .xor .i64 (bits .xor .i64 (Sha.rotr x i : Nat) (Sha.rotr x j : Nat)) (Sha.rotr x k : Nat) = ((Sha.high x i j k : Nat) : Int) := by
  have h1 := Sha.rotr_lt x i hx
  have h2 := Sha.rotr_lt x j hx
  have h3 := Sha.rotr_lt x k hx
  have h4 := Sha.xor_lt h1 h2
  rw [i64_xor_nat _ _ (by omega) (by omega), i64_xor_nat _ _ (by omega) (by omega)]; rfl
theorem i64_low (x i j k : Nat) (q : Int) (hx : x < 4294967296) (hq : q = ((x / 2 ^ k : Nat) : Int)) : bits .xor .i64 (bits .xor .i64 (Sha.rotr x i : Nat) (Sha.rotr x j : Nat)) q = ((Sha.low x i j k : Nat) : Int) := by
  have h1 := Sha.rotr_lt x i hx
  have h2 := Sha.rotr_lt x j hx
  have h3 := Sha.div_lt x k hx
  have h4 := Sha.xor_lt h1 h2
  subst hq
  rw [i64_xor_nat _ _ (by omega) (by omega), i64_xor_nat _ _ (by omega) (by omega)]; rfl
theorem step_form (r : Sha.St) (kk ww : Nat) : r.step kk ww = ⟨(r.h + Sha.high r.e 6 11 25 + Sha.ch r.e r.f r.g + kk + ww + (Sha.high r.a 2 13 22 + Sha.maj r.a r.b r.c)) % 4294967296, r.a, r.b, r.c, (r.d + (r.h + Sha.high r.e 6 11 25 + Sha.ch r.e r.f r.g + kk + ww)) % 4294967296, r.e, r.f, r.g⟩ := by
  unfold Sha.St.step Sha.t1 Sha.t2
  generalize Sha.high r.e 6 11 25 = a
  generalize Sha.high r.a 2 13 22 = b
  generalize Sha.ch r.e r.f r.g = c
  generalize Sha.maj r.a r.b r.c = d
  have h1 : ((((r.h + a) % 4294967296 + c) % 4294967296 + kk) % 4294967296 + ww) % 4294967296 = (r.h + a + c + kk + ww) % 4294967296 := by omega
  rw [h1]
  have h2 : ((r.h + a + c + kk + ww) % 4294967296 + (b + d) % 4294967296) % 4294967296 = (r.h + a + c + kk + ww + (b + d)) % 4294967296 := by omega
  have h3 : (r.d + (r.h + a + c + kk + ww) % 4294967296) % 4294967296 = (r.d + (r.h + a + c + kk + ww)) % 4294967296 := by omega
  rw [h2, h3]
theorem mask7 (a b c d e f g : Nat) (ha : a < 4294967296) (hb : b < 4294967296) (hc : c < 4294967296) (hd : d < 4294967296) (he : e < 4294967296) (hf : f < 4294967296) (hg : g < 4294967296) :
    bits .and .i64 ((a : Int) + (b : Int) + (c : Int) + (d : Int) + (e : Int) + ((f : Int) + (g : Int))) 4294967295 = (((a + b + c + d + e + (f + g)) % 4294967296 : Nat) : Int) := by
  have h : (a : Int) + (b : Int) + (c : Int) + (d : Int) + (e : Int) + ((f : Int) + (g : Int)) = ((a + b + c + d + e + (f + g) : Nat) : Int) := by omega
  rw [h]; exact i64_mask _ (by omega)
theorem mask6 (a b c d e f : Nat) (ha : a < 4294967296) (hb : b < 4294967296) (hc : c < 4294967296) (hd : d < 4294967296) (he : e < 4294967296) (hf : f < 4294967296) :
    bits .and .i64 ((a : Int) + ((b : Int) + (c : Int) + (d : Int) + (e : Int) + (f : Int))) 4294967295 = (((a + (b + c + d + e + f)) % 4294967296 : Nat) : Int) := by
  have h : (a : Int) + ((b : Int) + (c : Int) + (d : Int) + (e : Int) + (f : Int)) = ((a + (b + c + d + e + f) : Nat) : Int) := by omega
  rw [h]; exact i64_mask _ (by omega)
end Go.Proofs.YtgdnndapmcjoeaaDoor
