/- The document's answer for the constants: limbs, cubes, roots. Plain functions. -/
import Derived.WalkKit
namespace Go.Proofs.YtckdkcfhkakcfaaDoor
namespace Co

def addF (xs : List Nat) : Nat → Nat → Nat → List Nat
  | 0, _, _ => xs
  | f + 1, i, n => if i < 5 ∧ 0 < n then addF (xs.set i ((xs.getD i 0 + n % 4294967296) % 4294967296)) f (i + 1) (n / 4294967296 + (xs.getD i 0 + n % 4294967296) / 4294967296) else xs
def add (xs : List Nat) (i n : Nat) : List Nat := addF xs (5 - i) i n

structure Lim (xs : List Nat) : Prop where
  len : xs.length = 5
  lt : ∀ x ∈ xs, x < 4294967296
theorem Lim.at {xs : List Nat} (h : Lim xs) (i : Nat) : xs.getD i 0 < 4294967296 := by
  by_cases hi : i < xs.length
  · rw [List.getD_eq_getElem?_getD, List.getElem?_eq_getElem hi]; exact h.lt _ (List.getElem_mem hi)
  · rw [List.getD_eq_getElem?_getD, List.getElem?_eq_none (by omega)]; decide
theorem Lim.set {xs : List Nat} (h : Lim xs) (i x : Nat) (hx : x < 4294967296) : Lim (xs.set i x) :=
  ⟨by simp [h.len], fun y hy => by
    rcases List.mem_or_eq_of_mem_set hy with hy | rfl
    · exact h.lt y hy
    · exact hx⟩
theorem addF_lim (f : Nat) : ∀ (xs : List Nat) (i n : Nat), Lim xs → Lim (addF xs f i n) := by
  induction f with
  | zero => intro xs i n h; exact h
  | succ f ih =>
    intro xs i n h
    rw [addF]
    split
    · exact ih _ _ _ (h.set _ _ (Nat.mod_lt _ (by decide)))
    · exact h
theorem add_lim {xs : List Nat} (h : Lim xs) (i n : Nat) : Lim (add xs i n) := addF_lim _ _ _ _ h
theorem add_step {xs : List Nat} {i n : Nat} (hi : i < 5) (hn : 0 < n) : add xs i n = add (xs.set i ((xs.getD i 0 + n % 4294967296) % 4294967296)) (i + 1) (n / 4294967296 + (xs.getD i 0 + n % 4294967296) / 4294967296) := by
  unfold add
  obtain ⟨f, hf⟩ : ∃ f, 5 - i = f + 1 := ⟨4 - i, by omega⟩
  rw [hf, addF, if_pos ⟨hi, hn⟩, show 5 - (i + 1) = f by omega]
theorem add_stop {xs : List Nat} {i n : Nat} (h : ¬ (i < 5 ∧ 0 < n)) : add xs i n = xs := by
  unfold add
  cases 5 - i with
  | zero => rfl
  | succ f => rw [addF, if_neg h]

def zero5 : List Nat := [0, 0, 0, 0, 0]
theorem zero5_lim : Lim zero5 := ⟨rfl, by decide⟩
def parts (x y : Nat) : List Nat := add (add (add (add zero5 0 (x % 4294967296 * (y % 4294967296))) 1 (x % 4294967296 * (y / 4294967296))) 1 (x / 4294967296 * (y % 4294967296))) 2 (x / 4294967296 * (y / 4294967296))
theorem parts_lim (x y : Nat) : Lim (parts x y) := add_lim (add_lim (add_lim (add_lim zero5_lim _ _) _ _) _ _) _ _
def cube (a : List Nat) (lo hi : Nat) (b : List Nat) : Nat → List Nat
  | 0 => b
  | i + 1 => add (add (cube a lo hi b i) i (a.getD i 0 * lo)) (i + 1) (a.getD i 0 * hi)
theorem cube_lim (a : List Nat) (lo hi : Nat) {b : List Nat} (hb : Lim b) : ∀ i, Lim (cube a lo hi b i)
  | 0 => hb
  | i + 1 => add_lim (add_lim (cube_lim a lo hi hb i) _ _) _ _
def cmp (b : List Nat) (p : Nat) : Bool :=
  if 0 < b.getD 4 0 ∨ p < b.getD 3 0 then true else decide (b.getD 3 0 = p ∧ (0 < b.getD 0 0 ∨ 0 < b.getD 1 0 ∨ 0 < b.getD 2 0))
def above (y p : Nat) : Bool := cmp (cube (parts y y) (y % 4294967296) (y / 4294967296) zero5 3) p
/-- x behind the bits from 34 down to 35 - n. -/
def rootN (p : Nat) : Nat → Nat
  | 0 => 0
  | n + 1 => if above (rootN p n + 2 ^ (34 - n)) p then rootN p n else rootN p n + 2 ^ (34 - n)
def root (p : Nat) : Nat := rootN p 35 % 4294967296
def primeN (p : Nat) : Nat → Bool
  | 0 => true
  | n + 1 => primeN p n && p % (n + 2) != 0
def prime (p : Nat) : Bool := primeN p (p - 2)
def outN : Nat → List Nat
  | 0 => []
  | n + 1 => if prime (n + 2) then outN n ++ [root (n + 2)] else outN n
end Co
end Go.Proofs.YtckdkcfhkakcfaaDoor
