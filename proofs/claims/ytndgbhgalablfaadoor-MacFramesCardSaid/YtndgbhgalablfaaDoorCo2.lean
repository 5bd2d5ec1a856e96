/- The document's answer for the constants: limbs, cubes, roots. Plain functions. The document's constants are the standard's: reckoned by the kernel. The walks of the constants' limbs. The walks of parts, above, root. -/
import Derived.WalkKit
import Derived.Test.YtndgbhgalablfaaDoorLib
import Derived.Test.YtndgbhgalablfaaDoorQTail
import Derived.Test.YtndgbhgalablfaaDoorRows
import Derived.WalkSpells
import Derived.WalkLawsBesides
import Derived.Deep.QuietTactic
import Derived.BigQuiet
import Derived.Lib.Hide
import Derived.LoopTactic
namespace Go.Proofs.YtndgbhgalablfaaDoor
namespace Co

def addF (xs : List Nat) : Nat → Nat → Nat → List Nat
  | 0, _, _ => xs
  | f + 1, i, n => if i < 5 ∧ 0 < n then addF (xs.set i ((xs.getD i 0 + n % 4294967296) % 4294967296)) f (i + 1) (n / 4294967296 + (xs.getD i 0 + n % 4294967296) / 4294967296) else xs
def add (xs : List Nat) (i n : Nat) : List Nat := addF xs (5 - i) i n

structure Lim (xs : List Nat) : Prop where
  len : xs.length = 5
  lt : ∀ x ∈ xs, x < 4294967296
theorem Lim.at {xs : List Nat} (h : Lim xs) (i : Nat) : xs.getD i 0 < 4294967296 := by
  by_cases hi : i < xs.length
  · rw [List.getD_eq_getElem?_getD, List.getElem?_eq_getElem hi]; exact h.lt _ (List.getElem_mem hi)
  · rw [List.getD_eq_getElem?_getD, List.getElem?_eq_none (by omega)]; decide
theorem Lim.set {xs : List Nat} (h : Lim xs) (i x : Nat) (hx : x < 4294967296) : Lim (xs.set i x) :=
  ⟨by simp [h.len], fun y hy => by
    rcases List.mem_or_eq_of_mem_set hy with hy | rfl
    · exact h.lt y hy
    · exact hx⟩
theorem addF_lim (f : Nat) : ∀ (xs : List Nat) (i n : Nat), Lim xs → Lim (addF xs f i n) := by
  induction f with
  | zero => intro xs i n h; exact h
  | succ f ih =>
    intro xs i n h
    rw [addF]
    split
    · exact ih _ _ _ (h.set _ _ (Nat.mod_lt _ (by decide)))
    · exact h
theorem add_lim {xs : List Nat} (h : Lim xs) (i n : Nat) : Lim (add xs i n) := addF_lim _ _ _ _ h
theorem add_step {xs : List Nat} {i n : Nat} (hi : i < 5) (hn : 0 < n) : add xs i n = add (xs.set i ((xs.getD i 0 + n % 4294967296) % 4294967296)) (i + 1) (n / 4294967296 + (xs.getD i 0 + n % 4294967296) / 4294967296) := by
  unfold add
  obtain ⟨f, hf⟩ : ∃ f, 5 - i = f + 1 := ⟨4 - i, by omega⟩
  rw [hf, addF, if_pos ⟨hi, hn⟩, show 5 - (i + 1) = f by omega]
theorem add_stop {xs : List Nat} {i n : Nat} (h : ¬ (i < 5 ∧ 0 < n)) : add xs i n = xs := by
  unfold add
  cases 5 - i with
  | zero => rfl
  | succ f => rw [addF, if_neg h]

def zero5 : List Nat := [0, 0, 0, 0, 0]
theorem zero5_lim : Lim zero5 := ⟨rfl, by decide⟩
def parts (x y : Nat) : List Nat := add (add (add (add zero5 0 (x % 4294967296 * (y % 4294967296))) 1 (x % 4294967296 * (y / 4294967296))) 1 (x / 4294967296 * (y % 4294967296))) 2 (x / 4294967296 * (y / 4294967296))
theorem parts_lim (x y : Nat) : Lim (parts x y) := add_lim (add_lim (add_lim (add_lim zero5_lim _ _) _ _) _ _) _ _
def cube (a : List Nat) (lo hi : Nat) (b : List Nat) : Nat → List Nat
  | 0 => b
  | i + 1 => add (add (cube a lo hi b i) i (a.getD i 0 * lo)) (i + 1) (a.getD i 0 * hi)
theorem cube_lim (a : List Nat) (lo hi : Nat) {b : List Nat} (hb : Lim b) : ∀ i, Lim (cube a lo hi b i)
  | 0 => hb
  | i + 1 => add_lim (add_lim (cube_lim a lo hi hb i) _ _) _ _
def cmp (b : List Nat) (p : Nat) : Bool :=
  if 0 < b.getD 4 0 ∨ p < b.getD 3 0 then true else decide (b.getD 3 0 = p ∧ (0 < b.getD 0 0 ∨ 0 < b.getD 1 0 ∨ 0 < b.getD 2 0))
def above (y p : Nat) : Bool := cmp (cube (parts y y) (y % 4294967296) (y / 4294967296) zero5 3) p
/-- x behind the bits from 34 down to 35 - n. -/
def rootN (p : Nat) : Nat → Nat
  | 0 => 0
  | n + 1 => if above (rootN p n + 2 ^ (34 - n)) p then rootN p n else rootN p n + 2 ^ (34 - n)
def root (p : Nat) : Nat := rootN p 35 % 4294967296
def primeN (p : Nat) : Nat → Bool
  | 0 => true
  | n + 1 => primeN p n && p % (n + 2) != 0
def prime (p : Nat) : Bool := primeN p (p - 2)
def outN : Nat → List Nat
  | 0 => []
  | n + 1 => if prime (n + 2) then outN n ++ [root (n + 2)] else outN n
end Co
end Go.Proofs.YtndgbhgalablfaaDoor
namespace Go.Proofs.YtndgbhgalablfaaDoor
namespace Co
def table : List Nat := [1116352408, 1899447441, 3049323471, 3921009573, 961987163, 1508970993, 2453635748, 2870763221, 3624381080, 310598401, 607225278, 1426881987, 1925078388, 2162078206, 2614888103, 3248222580, 3835390401, 4022224774, 264347078, 604807628, 770255983, 1249150122, 1555081692, 1996064986, 2554220882, 2821834349, 2952996808, 3210313671, 3336571891, 3584528711, 113926993, 338241895, 666307205, 773529912, 1294757372, 1396182291, 1695183700, 1986661051, 2177026350, 2456956037, 2730485921, 2820302411, 3259730800, 3345764771, 3516065817, 3600352804, 4094571909, 275423344, 430227734, 506948616, 659060556, 883997877, 958139571, 1322822218, 1537002063, 1747873779, 1955562222, 2024104815, 2227730452, 2361852424, 2428436474, 2756734187, 3204031479, 3329325298]
theorem outN_mono : ∀ k d, (outN k).length ≤ (outN (k + d)).length
  | _, 0 => Nat.le_refl _
  | k, d + 1 => Nat.le_trans (outN_mono k d) (by
    rw [show k + (d + 1) = (k + d) + 1 by omega, outN]
    split
    · simp
    · exact Nat.le_refl _)
theorem out309 : (outN 309).length = 63 := by decide +kernel
theorem out310 : outN 310 = table := by decide +kernel
theorem out_lt (k : Nat) (h : k ≤ 309) : (outN k).length < 64 := by
  have := outN_mono k (309 - k)
  rw [show k + (309 - k) = 309 by omega, out309] at this
  omega
end Co
end Go.Proofs.YtndgbhgalablfaaDoor
namespace Go.Proofs.YtndgbhgalablfaaDoor
open Go.RowKit

def u64V (ws : List Nat) : Array Value := (ws.map fun (x : Nat) => Value.int .u64 (x : Int)).toArray
theorem u64V_at (ws : List Nat) (i : Nat) (h : i < ws.length) : (u64V ws)[i]? = some (.int .u64 (ws.getD i 0 : Nat)) := by
  simp [u64V, h]
theorem u64V_set (ws : List Nat) (i x : Nat) : (u64V ws).setIfInBounds i (.int .u64 (x : Int)) = u64V (ws.set i x) := by
  simp [u64V, List.map_set]
def IsLim (w : World) (b : Nat) (xs : List Nat) : Prop := w.heap[b]? = some (.cells (u64V xs) 115 (0, 0))

theorem wrap_u64 (n : Nat) (h : n < 18446744073709551616) : IntKind.u64.wrap (n : Int) = n := by
  simp only [IntKind.wrap, IntKind.bits, IntKind.signed]
  simp
  omega
theorem set_at {w : World} {b i x : Nat} {xs : List Nat} (h : IsLim w b xs) : IsLim (w.setCell ⟨b, i, none⟩ (.int .u64 (x : Int))) b (xs.set i x) := by
  have := setCell_heap (i := i) h (.int .u64 (x : Int))
  rwa [u64V_set] at this

end Go.Proofs.YtndgbhgalablfaaDoor
namespace Go.Proofs.YtndgbhgalablfaaDoor
open Go.RowKit

theorem mul_lt {a b A B C : Nat} (ha : a ≤ A) (hb : b ≤ B) (hC : A * B ≤ C) : a * b ≤ C := Nat.le_trans (Nat.mul_le_mul ha hb) hC
theorem wrap_mul (a b : Nat) (h : a * b < 18446744073709551616) : IntKind.u64.wrap ((a : Int) * (b : Int)) = ((a * b : Nat) : Int) := by
  rw [← Int.natCast_mul]; exact wrap_u64 _ h



theorem rootN_lt (p : Nat) : ∀ n, n ≤ 35 → Co.rootN p n ≤ 34359738368 - 2 ^ (35 - n)
  | 0, _ => Nat.zero_le _
  | n + 1, h => by
    have ih := rootN_lt p n (by omega)
    have e : 2 ^ (35 - n) = 2 * 2 ^ (34 - n) := by rw [show 35 - n = (34 - n) + 1 by omega, Nat.pow_succ, Nat.mul_comm]
    have hp : 2 ^ (34 - n) ≤ 2 ^ 34 := Nat.pow_le_pow_right (by decide) (by omega)
    have hp2 : 0 < 2 ^ (34 - n) := Nat.pow_pos (by decide)
    rw [Co.rootN, show 35 - (n + 1) = 34 - n by omega]
    generalize 2 ^ (34 - n) = z at *
    split <;> omega

end Go.Proofs.YtndgbhgalablfaaDoor
