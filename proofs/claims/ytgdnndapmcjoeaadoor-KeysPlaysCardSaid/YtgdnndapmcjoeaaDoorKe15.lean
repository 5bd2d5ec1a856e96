import Derived.Test.YtgdnndapmcjoeaaDoorKe01
import Derived.Test.YtgdnndapmcjoeaaDoorKe06
import Derived.WalkKit
import Derived.Test.YtgdnndapmcjoeaaDoorRows
import Derived.WalkSpells
import Derived.WalkLawsBesides
import Derived.Deep.QuietTactic
import Derived.BigQuiet
import Derived.Lib.Hide
import Derived.LoopTactic
namespace Go.Proofs.YtgdnndapmcjoeaaDoor
namespace Co
def addF (xs : List Nat) : Nat → Nat → Nat → List Nat
  | 0, _, _ => xs
  | f + 1, i, n => if i < 5 ∧ 0 < n then addF (xs.set i ((xs.getD i 0 + n % 4294967296) % 4294967296)) f (i + 1) (n / 4294967296 + (xs.getD i 0 + n % 4294967296) / 4294967296) else xs
def add (xs : List Nat) (i n : Nat) : List Nat := addF xs (5 - i) i n
structure Lim (xs : List Nat) : Prop where
  len : xs.length = 5
  lt : ∀ x ∈ xs, x < 4294967296
theorem Lim.at {xs : List Nat} (h : Lim xs) (i : Nat) : xs.getD i 0 < 4294967296 := by
  by_cases hi : i < xs.length
  · rw [List.getD_eq_getElem?_getD, List.getElem?_eq_getElem hi]; exact h.lt _ (List.getElem_mem hi)
  · rw [List.getD_eq_getElem?_getD, List.getElem?_eq_none (by omega)]; decide
theorem Lim.set {xs : List Nat} (h : Lim xs) (i x : Nat) (hx : x < 4294967296) : Lim (xs.set i x) :=
  ⟨by simp [h.len], fun y hy => by
    rcases List.mem_or_eq_of_mem_set hy with hy | rfl
    · exact h.lt y hy
    · exact hx⟩
def zero5 : List Nat := [0, 0, 0, 0, 0]
def parts (x y : Nat) : List Nat := add (add (add (add zero5 0 (x % 4294967296 * (y % 4294967296))) 1 (x % 4294967296 * (y / 4294967296))) 1 (x / 4294967296 * (y % 4294967296))) 2 (x / 4294967296 * (y / 4294967296))
end Co
end Go.Proofs.YtgdnndapmcjoeaaDoor
namespace Go.Proofs.YtgdnndapmcjoeaaDoor
namespace Co
def table : List Nat := [1116352408, 1899447441, 3049323471, 3921009573, 961987163, 1508970993, 2453635748, 2870763221, 3624381080, 310598401, 607225278, 1426881987, 1925078388, 2162078206, 2614888103, 3248222580, 3835390401, 4022224774, 264347078, 604807628, 770255983, 1249150122, 1555081692, 1996064986, 2554220882, 2821834349, 2952996808, 3210313671, 3336571891, 3584528711, 113926993, 338241895, 666307205, 773529912, 1294757372, 1396182291, 1695183700, 1986661051, 2177026350, 2456956037, 2730485921, 2820302411, 3259730800, 3345764771, 3516065817, 3600352804, 4094571909, 275423344, 430227734, 506948616, 659060556, 883997877, 958139571, 1322822218, 1537002063, 1747873779, 1955562222, 2024104815, 2227730452, 2361852424, 2428436474, 2756734187, 3204031479, 3329325298]
end Co
end Go.Proofs.YtgdnndapmcjoeaaDoor
namespace Go.Proofs.YtgdnndapmcjoeaaDoor
open Go.RowKit
end Go.Proofs.YtgdnndapmcjoeaaDoor
namespace Go.Proofs.YtgdnndapmcjoeaaDoor
open Go.RowKit
end Go.Proofs.YtgdnndapmcjoeaaDoor
