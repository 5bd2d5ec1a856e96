/- The document's answer for the constants: limbs, cubes, roots. Plain functions. The document's constants are the standard's: reckoned by the kernel. The walks of the constants' limbs. The walks of parts, above, root. -/
import Derived.WalkKit
import Derived.Test.YtckdkcfhkakcfaaDoorLib
import Derived.Test.YtckdkcfhkakcfaaDoorQTail
import Derived.Test.YtckdkcfhkakcfaaDoorRows
import Derived.WalkSpells
import Derived.WalkLawsBesides
import Derived.Deep.QuietTactic
import Derived.BigQuiet
import Derived.Lib.Hide
import Derived.LoopTactic
namespace Go.Proofs.YtckdkcfhkakcfaaDoor
namespace Co

def addF (xs : List Nat) : Nat → Nat → Nat → List Nat
  | 0, _, _ => xs
  | f + 1, i, n => if i < 5 ∧ 0 < n then addF (xs.set i ((xs.getD i 0 + n % 4294967296) % 4294967296)) f (i + 1) (n / 4294967296 + (xs.getD i 0 + n % 4294967296) / 4294967296) else xs
def add (xs : List Nat) (i n : Nat) : List Nat := addF xs (5 - i) i n

structure Lim (xs : List Nat) : Prop where
  len : xs.length = 5
  lt : ∀ x ∈ xs, x < 4294967296
theorem Lim.at {xs : List Nat} (h : Lim xs) (i : Nat) : xs.getD i 0 < 4294967296 := by
  by_cases hi : i < xs.length
  · rw [List.getD_eq_getElem?_getD, List.getElem?_eq_getElem hi]; exact h.lt _ (List.getElem_mem hi)
  · rw [List.getD_eq_getElem?_getD, List.getElem?_eq_none (by omega)]; decide
theorem Lim.set {xs : List Nat} (h : Lim xs) (i x : Nat) (hx : x < 4294967296) : Lim (xs.set i x) :=
  ⟨by simp [h.len], fun y hy => by
    rcases List.mem_or_eq_of_mem_set hy with hy | rfl
    · exact h.lt y hy
    · exact hx⟩
theorem addF_lim (f : Nat) : ∀ (xs : List Nat) (i n : Nat), Lim xs → Lim (addF xs f i n) := by
  induction f with
  | zero => intro xs i n h; exact h
  | succ f ih =>
    intro xs i n h
    rw [addF]
    split
    · exact ih _ _ _ (h.set _ _ (Nat.mod_lt _ (by decide)))
    · exact h
theorem add_lim {xs : List Nat} (h : Lim xs) (i n : Nat) : Lim (add xs i n) := addF_lim _ _ _ _ h
theorem add_step {xs : List Nat} {i n : Nat} (hi : i < 5) (hn : 0 < n) : add xs i n = add (xs.set i ((xs.getD i 0 + n % 4294967296) % 4294967296)) (i + 1) (n / 4294967296 + (xs.getD i 0 + n % 4294967296) / 4294967296) := by
  unfold add
  obtain ⟨f, hf⟩ : ∃ f, 5 - i = f + 1 := ⟨4 - i, by omega⟩
  rw [hf, addF, if_pos ⟨hi, hn⟩, show 5 - (i + 1) = f by omega]
theorem add_stop {xs : List Nat} {i n : Nat} (h : ¬ (i < 5 ∧ 0 < n)) : add xs i n = xs := by
  unfold add
  cases 5 - i with
  | zero => rfl
  | succ f => rw [addF, if_neg h]

def zero5 : List Nat := [0, 0, 0, 0, 0]
theorem zero5_lim : Lim zero5 := ⟨rfl, by decide⟩
def parts (x y : Nat) : List Nat := add (add (add (add zero5 0 (x % 4294967296 * (y % 4294967296))) 1 (x % 4294967296 * (y / 4294967296))) 1 (x / 4294967296 * (y % 4294967296))) 2 (x / 4294967296 * (y / 4294967296))
theorem parts_lim (x y : Nat) : Lim (parts x y) := add_lim (add_lim (add_lim (add_lim zero5_lim _ _) _ _) _ _) _ _
def cube (a : List Nat) (lo hi : Nat) (b : List Nat) : Nat → List Nat
  | 0 => b
  | i + 1 => add (add (cube a lo hi b i) i (a.getD i 0 * lo)) (i + 1) (a.getD i 0 * hi)
theorem cube_lim (a : List Nat) (lo hi : Nat) {b : List Nat} (hb : Lim b) : ∀ i, Lim (cube a lo hi b i)
  | 0 => hb
  | i + 1 => add_lim (add_lim (cube_lim a lo hi hb i) _ _) _ _
def cmp (b : List Nat) (p : Nat) : Bool :=
  if 0 < b.getD 4 0 ∨ p < b.getD 3 0 then true else decide (b.getD 3 0 = p ∧ (0 < b.getD 0 0 ∨ 0 < b.getD 1 0 ∨ 0 < b.getD 2 0))
def above (y p : Nat) : Bool := cmp (cube (parts y y) (y % 4294967296) (y / 4294967296) zero5 3) p
/-- x behind the bits from 34 down to 35 - n. -/
def rootN (p : Nat) : Nat → Nat
  | 0 => 0
  | n + 1 => if above (rootN p n + 2 ^ (34 - n)) p then rootN p n else rootN p n + 2 ^ (34 - n)
def root (p : Nat) : Nat := rootN p 35 % 4294967296
def primeN (p : Nat) : Nat → Bool
  | 0 => true
  | n + 1 => primeN p n && p % (n + 2) != 0
def prime (p : Nat) : Bool := primeN p (p - 2)
def outN : Nat → List Nat
  | 0 => []
  | n + 1 => if prime (n + 2) then outN n ++ [root (n + 2)] else outN n
end Co
end Go.Proofs.YtckdkcfhkakcfaaDoor
namespace Go.Proofs.YtckdkcfhkakcfaaDoor
namespace Co
def table : List Nat := [1116352408, 1899447441, 3049323471, 3921009573, 961987163, 1508970993, 2453635748, 2870763221, 3624381080, 310598401, 607225278, 1426881987, 1925078388, 2162078206, 2614888103, 3248222580, 3835390401, 4022224774, 264347078, 604807628, 770255983, 1249150122, 1555081692, 1996064986, 2554220882, 2821834349, 2952996808, 3210313671, 3336571891, 3584528711, 113926993, 338241895, 666307205, 773529912, 1294757372, 1396182291, 1695183700, 1986661051, 2177026350, 2456956037, 2730485921, 2820302411, 3259730800, 3345764771, 3516065817, 3600352804, 4094571909, 275423344, 430227734, 506948616, 659060556, 883997877, 958139571, 1322822218, 1537002063, 1747873779, 1955562222, 2024104815, 2227730452, 2361852424, 2428436474, 2756734187, 3204031479, 3329325298]
theorem outN_mono : ∀ k d, (outN k).length ≤ (outN (k + d)).length
  | _, 0 => Nat.le_refl _
  | k, d + 1 => Nat.le_trans (outN_mono k d) (by
    rw [show k + (d + 1) = (k + d) + 1 by omega, outN]
    split
    · simp
    · exact Nat.le_refl _)
theorem out309 : (outN 309).length = 63 := by decide +kernel
theorem out310 : outN 310 = table := by decide +kernel
theorem out_lt (k : Nat) (h : k ≤ 309) : (outN k).length < 64 := by
  have := outN_mono k (309 - k)
  rw [show k + (309 - k) = 309 by omega, out309] at this
  omega
end Co
end Go.Proofs.YtckdkcfhkakcfaaDoor
namespace Go.Proofs.YtckdkcfhkakcfaaDoor
open Go.RowKit

def u64V (ws : List Nat) : Array Value := (ws.map fun (x : Nat) => Value.int .u64 (x : Int)).toArray
theorem u64V_at (ws : List Nat) (i : Nat) (h : i < ws.length) : (u64V ws)[i]? = some (.int .u64 (ws.getD i 0 : Nat)) := by
  simp [u64V, h]
theorem u64V_set (ws : List Nat) (i x : Nat) : (u64V ws).setIfInBounds i (.int .u64 (x : Int)) = u64V (ws.set i x) := by
  simp [u64V, List.map_set]
def IsLim (w : World) (b : Nat) (xs : List Nat) : Prop := w.heap[b]? = some (.cells (u64V xs) 95 (0, 0))

theorem wrap_u64 (n : Nat) (h : n < 18446744073709551616) : IntKind.u64.wrap (n : Int) = n := by
  simp only [IntKind.wrap, IntKind.bits, IntKind.signed]
  simp
  omega
theorem set_at {w : World} {b i x : Nat} {xs : List Nat} (h : IsLim w b xs) : IsLim (w.setCell ⟨b, i, none⟩ (.int .u64 (x : Int))) b (xs.set i x) := by
  have := setCell_heap (i := i) h (.int .u64 (x : Int))
  rwa [u64V_set] at this

set_option maxRecDepth 100000 in
set_option maxHeartbeats 1000000 in
theorem coadd_any (xs : List Nat) (hx : Co.Lim xs) (i n : Nat) (hi : i ≤ 5) (hn : n < 18446744073709551616) (b : Nat) (w : World) (hB : IsLim w b xs) :
    Calls Tryd.prog 68 #[.slice (some ⟨b, 0, none⟩) 5 5, .int .i64 i, .int .u64 n] w fun e w' => e = .returned (.tuple #[]) ∧ w.grownBy w' (some b) ∧ IsLim w' b (Co.add xs i n) := by
  have HB := Lib.hid hB
  have HX := Lib.hid hx
  have HN := Lib.hid hn
  clear hB hx hn
  go_enter Tryd.func68, Tryd.ntmps68
  go_wp2
  go_loopw [1, 2] (fun vi vn wr => ∃ (i' n' : Nat) (xs' : List Nat), vi = .int .i64 i' ∧ vn = .int .u64 n' ∧ i' ≤ 5 ∧ Hid (n' < 18446744073709551616) ∧ Co.Lim xs' ∧ IsLim wr b xs' ∧ w.grownBy wr (some b) ∧ Co.add xs' i' n' = Co.add xs i n) (fun vi _ _ => 5 - (intOf vi).toNat)
  case atStart => exact ⟨i, n, xs, rfl, rfl, hi, HN, HX.out, HB.out, grown_refl _ _, rfl⟩
  case round =>
    obtain ⟨i', n', xs', rfl, rfl, hi', HN', hx', hB', hg', he⟩ := hrel
    by_cases h1 : i' < 5
    · by_cases h2 : 0 < n'
      · obtain ⟨x, hxx⟩ : ∃ x, x = xs'.getD i' 0 := ⟨_, rfl⟩
        have hlx : x < 4294967296 := by rw [hxx]; exact hx'.at i'
        have c := cell_blk hB' i' (u64V_at xs' i' (by rw [hx'.len]; exact h1))
        have f := free_blk hB' i'
        rw [← hxx] at c
        have HE := Lib.hid he
        have HB' := Lib.hid hB'
        have HX' := Lib.hid hx'
        have HG' := Lib.hid hg'
        have Hxx := Lib.hid hxx
        clear he hB' hx' hg' hxx
        go_wp2
        go_roundw
        case rel =>
          have hN := HN'.out
          refine ⟨i' + 1, n' / 4294967296 + (x + n' % 4294967296) / 4294967296, xs'.set i' ((x + n' % 4294967296) % 4294967296), by go_num, ?_, by omega, Lib.hid (by omega), HX'.out.set _ _ (Nat.mod_lt _ (by decide)), ?_, grown_set HG'.out (.inr rfl) _, ?_⟩
          · have e : (n' : Int) / 4294967296 + ((x : Int) + (n' : Int) % 4294967296) / 4294967296 = ((n' / 4294967296 + (x + n' % 4294967296) / 4294967296 : Nat) : Int) := by omega
            rw [e, wrap_u64 _ (by omega)]
          · have e : ((x : Int) + (n' : Int)) % 4294967296 = (((x + n' % 4294967296) % 4294967296 : Nat) : Int) := by omega
            rw [e]; exact set_at HB'.out
          · rw [← HE.out, Co.add_step h1 h2, Hxx.out]
        case measure => simp [intOf]; omega
      · have hst := Co.add_stop (xs := xs') (i := i') (n := n') (fun h => h2 h.2)
        rw [hst] at he
        have HE := Lib.hid he
        have HB' := Lib.hid hB'
        have HG' := Lib.hid hg'
        obtain rfl : n' = 0 := by omega
        clear he hB' hx' hg' hst
        go_wp2
        go_end0
        exact ⟨rfl, HG'.out, by rw [← HE.out]; exact HB'.out⟩
    · have hst := Co.add_stop (xs := xs') (i := i') (n := n') (fun h => h1 h.1)
      rw [hst] at he
      have HE := Lib.hid he
      have HB' := Lib.hid hB'
      have HG' := Lib.hid hg'
      obtain rfl : i' = 5 := by omega
      clear he hB' hx' hg' hst
      go_wp2
      go_end0
      exact ⟨rfl, HG'.out, by rw [← HE.out]; exact HB'.out⟩
end Go.Proofs.YtckdkcfhkakcfaaDoor
namespace Go.Proofs.YtckdkcfhkakcfaaDoor
open Go.RowKit

theorem mul_lt {a b A B C : Nat} (ha : a ≤ A) (hb : b ≤ B) (hC : A * B ≤ C) : a * b ≤ C := Nat.le_trans (Nat.mul_le_mul ha hb) hC
theorem wrap_mul (a b : Nat) (h : a * b < 18446744073709551616) : IntKind.u64.wrap ((a : Int) * (b : Int)) = ((a * b : Nat) : Int) := by
  rw [← Int.natCast_mul]; exact wrap_u64 _ h

set_option maxRecDepth 100000 in
set_option maxHeartbeats 1000000 in
theorem parts_any (x y : Nat) (hx : x < 34359738368) (hy : y < 34359738368) (w : World) :
    Calls Tryd.prog 67 #[.int .u64 x, .int .u64 y] w fun e w' => e = .returned (.slice (some ⟨w.heap.size, 0, none⟩) 5 5) ∧ w.grownBy w' none ∧ IsLim w' w.heap.size (Co.parts x y) := by
  obtain ⟨xl, h1⟩ : ∃ xl, xl = x % 4294967296 := ⟨_, rfl⟩
  obtain ⟨xh, h2⟩ : ∃ xh, xh = x / 4294967296 := ⟨_, rfl⟩
  obtain ⟨yl, h3⟩ : ∃ yl, yl = y % 4294967296 := ⟨_, rfl⟩
  obtain ⟨yh, h4⟩ : ∃ yh, yh = y / 4294967296 := ⟨_, rfl⟩
  have e1 : (x : Int) % 4294967296 = (xl : Int) := by omega
  have e2 : (x : Int) / 4294967296 = (xh : Int) := by omega
  have e3 : (y : Int) % 4294967296 = (yl : Int) := by omega
  have e4 : (y : Int) / 4294967296 = (yh : Int) := by omega
  have b1 : xl * yl ≤ 18446744065119617025 := mul_lt (A := 4294967295) (B := 4294967295) (by omega) (by omega) (by decide)
  have b2 : xl * yh ≤ 18446744065119617025 := mul_lt (A := 4294967295) (B := 8) (by omega) (by omega) (by decide)
  have b3 : xh * yl ≤ 18446744065119617025 := mul_lt (A := 8) (B := 4294967295) (by omega) (by omega) (by decide)
  have b4 : xh * yh ≤ 18446744065119617025 := mul_lt (A := 8) (B := 8) (by omega) (by omega) (by decide)
  have m1 := wrap_mul xl yl (by omega)
  have m2 := wrap_mul xl yh (by omega)
  have m3 := wrap_mul xh yl (by omega)
  have m4 := wrap_mul xh yh (by omega)
  have HP : Hid (Co.parts x y = Co.add (Co.add (Co.add (Co.add Co.zero5 0 (xl * yl)) 1 (xl * yh)) 1 (xh * yl)) 2 (xh * yh)) := Lib.hid (by rw [h1, h2, h3, h4]; rfl)
  obtain ⟨p1, hp1⟩ : ∃ p, p = xl * yl := ⟨_, rfl⟩
  obtain ⟨p2, hp2⟩ : ∃ p, p = xl * yh := ⟨_, rfl⟩
  obtain ⟨p3, hp3⟩ : ∃ p, p = xh * yl := ⟨_, rfl⟩
  obtain ⟨p4, hp4⟩ : ∃ p, p = xh * yh := ⟨_, rfl⟩
  rw [← hp1] at m1 b1; rw [← hp2] at m2 b2; rw [← hp3] at m3 b3; rw [← hp4] at m4 b4
  rw [← hp1, ← hp2, ← hp3, ← hp4] at HP
  have k1 : p1 < 18446744073709551616 := by omega
  have k2 : p2 < 18446744073709551616 := by omega
  have k3 : p3 < 18446744073709551616 := by omega
  have k4 : p4 < 18446744073709551616 := by omega
  have K := Lib.hid (And.intro k1 (And.intro k2 (And.intro k3 k4)))
  clear h1 h2 h3 h4 hp1 hp2 hp3 hp4 b1 b2 b3 b4 k1 k2 k3 k4 hx hy
  go_enter Tryd.func67, Tryd.ntmps67
  go_wp2_with fail
  refine (coadd_any Co.zero5 Co.zero5_lim 0 p1 (by omega) K.out.1 w.heap.size _ (alloc_at w _)).mono ?_
  rintro e w1 ⟨rfl, g1, l1⟩
  have G1 := Lib.hid (grown_forget (World.grownBy_alloc w _ none) (Nat.le_refl _) g1)
  have L1 := Lib.hid l1
  clear g1 l1
  go_wp2_with fail
  refine (coadd_any _ (Co.add_lim Co.zero5_lim _ _) 1 p2 (by omega) K.out.2.1 w.heap.size _ L1.out).mono ?_
  rintro e w2 ⟨rfl, g2, l2⟩
  have G2 := Lib.hid (grown_forget G1.out (Nat.le_refl _) g2)
  have L2 := Lib.hid l2
  clear g2 l2 L1 G1
  go_wp2_with fail
  refine (coadd_any _ (Co.add_lim (Co.add_lim Co.zero5_lim _ _) _ _) 1 p3 (by omega) K.out.2.2.1 w.heap.size _ L2.out).mono ?_
  rintro e w3 ⟨rfl, g3, l3⟩
  have G3 := Lib.hid (grown_forget G2.out (Nat.le_refl _) g3)
  have L3 := Lib.hid l3
  clear g3 l3 L2 G2
  go_wp2_with fail
  refine (coadd_any _ (Co.add_lim (Co.add_lim (Co.add_lim Co.zero5_lim _ _) _ _) _ _) 2 p4 (by omega) K.out.2.2.2 w.heap.size _ L3.out).mono ?_
  rintro e w4 ⟨rfl, g4, l4⟩
  have G4 := Lib.hid (grown_forget G3.out (Nat.le_refl _) g4)
  have L4 := Lib.hid l4
  clear g4 l4 L3 G3
  go_wp2
  go_ret
  exact ⟨rfl, G4.out, by rw [HP.out]; exact L4.out⟩

set_option maxRecDepth 100000 in
set_option maxHeartbeats 1000000 in
theorem above_any (y p : Nat) (hy : y < 34359738368) (hp : p < 18446744073709551616) (w : World) :
    Calls Tryd.prog 60 #[.int .u64 y, .int .u64 p] w fun e w' => e = .returned (.bool (Co.above y p)) ∧ w.grownBy w' none := by
  obtain ⟨lo, h1⟩ : ∃ xl, xl = y % 4294967296 := ⟨_, rfl⟩
  obtain ⟨hi, h2⟩ : ∃ xh, xh = y / 4294967296 := ⟨_, rfl⟩
  have e1 : (y : Int) % 4294967296 = (lo : Int) := by omega
  have e2 : (y : Int) / 4294967296 = (hi : Int) := by omega
  have E1 := Lib.hid e1
  have E2 := Lib.hid e2
  have HY := Lib.hid hy
  have bl : lo ≤ 4294967295 := by omega
  have bh : hi ≤ 8 := by omega
  have HA : Hid (Co.above y p = Co.cmp (Co.cube (Co.parts y y) lo hi Co.zero5 3) p) := Lib.hid (by rw [h1, h2]; rfl)
  have Hp := Lib.hid hp
  have Hl := Lib.hid (Co.parts_lim y y)
  obtain ⟨a, ha⟩ : ∃ a, a = Co.parts y y := ⟨_, rfl⟩
  rw [← ha] at HA Hl
  have Ha := Lib.hid ha
  clear h1 h2 e1 e2 hy hp ha
  go_enter Tryd.func60, Tryd.ntmps60
  go_wp2_with fail
  refine (parts_any y y HY.out HY.out w).mono ?_
  rintro e w1 ⟨rfl, g1, l1⟩
  rw [← Ha.out] at l1
  have G1 := Lib.hid g1
  have L1 := Lib.hid l1
  clear g1 l1
  go_wp2
  rw [E1.out, E2.out]
  have G2 := Lib.hid (grown_alloc G1.out (.cells (u64V Co.zero5) 95))
  have L2 : Hid (IsLim (w1.alloc (.cells (u64V Co.zero5) 95)) w1.heap.size Co.zero5) := Lib.hid (alloc_at _ _)
  have hsz : w.heap.size < w1.heap.size := blk_lt L1.out
  have L3 : Hid (IsLim (w1.alloc (.cells (u64V Co.zero5) 95)) w.heap.size a) := Lib.hid ((alloc_old _ _ _ hsz).trans L1.out)
  go_loopw [9] (fun i wr => ∃ k : Nat, k ≤ 3 ∧ i = .int .i64 k ∧ w.grownBy wr none ∧ IsLim wr w.heap.size a ∧ IsLim wr w1.heap.size (Co.cube a lo hi Co.zero5 k)) (fun i _ => 3 - (intOf i).toNat)
  case atStart => exact ⟨0, Nat.zero_le _, rfl, G2.out, L3.out, L2.out⟩
  case round =>
    obtain ⟨k, hk, rfl, hg, ha, hb⟩ := hrel
    by_cases hlt : k < 3
    · obtain ⟨x, hx⟩ : ∃ x, x = a.getD k 0 := ⟨_, rfl⟩
      have xl : x < 4294967296 := by rw [hx]; exact Hl.out.at k
      have c := cell_blk ha k (u64V_at a k (by rw [Hl.out.len]; omega))
      rw [← hx] at c
      have b1 : x * lo ≤ 18446744065119617025 := mul_lt (A := 4294967295) (B := 4294967295) (by omega) (by omega) (by decide)
      have b2 : x * hi ≤ 18446744065119617025 := mul_lt (A := 4294967295) (B := 8) (by omega) (by omega) (by decide)
      have m1 := wrap_mul x lo (by omega)
      have m2 := wrap_mul x hi (by omega)
      have HC : Hid (Co.cube a lo hi Co.zero5 (k + 1) = Co.add (Co.add (Co.cube a lo hi Co.zero5 k) k (x * lo)) (k + 1) (x * hi)) := Lib.hid (by rw [hx]; rfl)
      obtain ⟨p1, hp1⟩ : ∃ p, p = x * lo := ⟨_, rfl⟩
      obtain ⟨p2, hp2⟩ : ∃ p, p = x * hi := ⟨_, rfl⟩
      rw [← hp1] at m1 b1; rw [← hp2] at m2 b2
      rw [← hp1, ← hp2] at HC
      have K1 : Hid (p1 < 18446744073709551616) := Lib.hid (by omega)
      have K2 : Hid (p2 < 18446744073709551616) := Lib.hid (by omega)
      have HLim := Lib.hid (Co.cube_lim a lo hi Co.zero5_lim k)
      have HG := Lib.hid hg
      have HA' := Lib.hid ha
      have HB' := Lib.hid hb
      clear hx hp1 hp2 b1 b2 hg ha hb
      go_wp2_with fail
      refine (coadd_any _ HLim.out k p1 (by omega) K1.out w1.heap.size wr HB'.out).mono ?_
      rintro e w2 ⟨rfl, g2, l2⟩
      have c2 : w2.cell? ⟨w.heap.size, k, none⟩ = some (.int .u64 (x : Int)) := by rw [World.cell?_of_block (g2.block w.heap.size (blk_lt HA'.out) (by simp; omega))]; exact c
      have HG2 := Lib.hid (grown_forget HG.out (by omega) g2)
      have HA2 : Hid (IsLim w2 w.heap.size a) := Lib.hid ((g2.block w.heap.size (blk_lt HA'.out) (by simp; omega)).trans HA'.out)
      have HB2 := Lib.hid l2
      clear g2 l2 c
      go_wp2_with fail
      refine (coadd_any _ (Co.add_lim HLim.out _ _) (k + 1) p2 (by omega) K2.out w1.heap.size w2 HB2.out).mono ?_
      rintro e w3 ⟨rfl, g3, l3⟩
      have HG3 := Lib.hid (grown_forget HG2.out (by omega) g3)
      have HA3 : Hid (IsLim w3 w.heap.size a) := Lib.hid ((g3.block w.heap.size (blk_lt HA2.out) (by simp; omega)).trans HA2.out)
      have HB3 := Lib.hid l3
      clear g3 l3 c2
      go_wp2
      go_roundw
      case rel => exact ⟨k + 1, by omega, by go_num, HG3.out, HA3.out, by rw [HC.out]; exact HB3.out⟩
      case measure => simp [intOf]; omega
    · obtain rfl : k = 3 := by omega
      obtain ⟨B, hB⟩ : ∃ B, B = Co.cube a lo hi Co.zero5 3 := ⟨_, rfl⟩
      have hLim := Co.cube_lim a lo hi Co.zero5_lim 3
      rw [← hB] at hb hLim HA
      obtain ⟨c0, h0⟩ : ∃ x, x = B.getD 0 0 := ⟨_, rfl⟩
      obtain ⟨c1, h1⟩ : ∃ x, x = B.getD 1 0 := ⟨_, rfl⟩
      obtain ⟨c2, h2⟩ : ∃ x, x = B.getD 2 0 := ⟨_, rfl⟩
      obtain ⟨c3, h3⟩ : ∃ x, x = B.getD 3 0 := ⟨_, rfl⟩
      obtain ⟨c4, h4⟩ : ∃ x, x = B.getD 4 0 := ⟨_, rfl⟩
      have f0 := cell_blk hb 0 (u64V_at B 0 (by rw [hLim.len]; omega))
      have f1 := cell_blk hb 1 (u64V_at B 1 (by rw [hLim.len]; omega))
      have f2 := cell_blk hb 2 (u64V_at B 2 (by rw [hLim.len]; omega))
      have f3 := cell_blk hb 3 (u64V_at B 3 (by rw [hLim.len]; omega))
      have f4 := cell_blk hb 4 (u64V_at B 4 (by rw [hLim.len]; omega))
      rw [← h0] at f0; rw [← h1] at f1; rw [← h2] at f2; rw [← h3] at f3; rw [← h4] at f4
      have HC : Hid (Co.above y p = if 0 < c4 ∨ p < c3 then true else decide (c3 = p ∧ (0 < c0 ∨ 0 < c1 ∨ 0 < c2))) := Lib.hid (by rw [HA.out]; unfold Co.cmp; rw [h0, h1, h2, h3, h4])
      have HG := Lib.hid hg
      clear h0 h1 h2 h3 h4 hb hB hLim hg ha
      by_cases q4 : 0 < c4
      · go_wp2
        go_ret
        exact ⟨by rw [HC.out]; simp [q4], HG.out⟩
      · by_cases q3 : p < c3
        · go_wp2
          go_ret
          exact ⟨by rw [HC.out]; simp [q3], HG.out⟩
        · by_cases q : c3 = p
          · have hq : ((c3 : Int) == (p : Int)) = true := beq_iff_eq.2 (by omega)
            by_cases q0 : 0 < c0
            · go_wp2
              go_ret
              exact ⟨by rw [HC.out]; simp [q0, q, q4], HG.out⟩
            · by_cases q1 : 0 < c1
              · go_wp2
                go_ret
                exact ⟨by rw [HC.out]; simp [q0, q1, q, q4], HG.out⟩
              · by_cases q2 : 0 < c2
                · go_wp2
                  go_ret
                  exact ⟨by rw [HC.out]; simp [q0, q1, q2, q, q4], HG.out⟩
                · go_wp2
                  go_ret
                  exact ⟨by rw [HC.out]; simp [q0, q1, q2, q, q4], HG.out⟩
          · have hq : ((c3 : Int) == (p : Int)) = false := beq_eq_false_iff_ne.2 (by omega)
            go_wp2
            go_ret
            exact ⟨by rw [HC.out]; simp [q, q3, q4], HG.out⟩

theorem rootN_lt (p : Nat) : ∀ n, n ≤ 35 → Co.rootN p n ≤ 34359738368 - 2 ^ (35 - n)
  | 0, _ => Nat.zero_le _
  | n + 1, h => by
    have ih := rootN_lt p n (by omega)
    have e : 2 ^ (35 - n) = 2 * 2 ^ (34 - n) := by rw [show 35 - n = (34 - n) + 1 by omega, Nat.pow_succ, Nat.mul_comm]
    have hp : 2 ^ (34 - n) ≤ 2 ^ 34 := Nat.pow_le_pow_right (by decide) (by omega)
    have hp2 : 0 < 2 ^ (34 - n) := Nat.pow_pos (by decide)
    rw [Co.rootN, show 35 - (n + 1) = 34 - n by omega]
    generalize 2 ^ (34 - n) = z at *
    split <;> omega

set_option maxRecDepth 100000 in
set_option maxHeartbeats 1000000 in
theorem root_any (p : Nat) (hp : p < 1000) (w : World) :
    Calls Tryd.prog 49 #[.int .i64 p] w fun e w' => e = .returned (.int .i64 (Co.root p : Nat)) ∧ w.grownBy w' none := by
  go_enter Tryd.func49, Tryd.ntmps49
  go_wp2
  go_loopw [3, 4] (fun vx vb wr => ∃ m : Nat, m ≤ 35 ∧ vb = .int .i64 ((m : Int) - 1) ∧ vx = .int .u64 (Co.rootN p (35 - m) : Nat) ∧ w.grownBy wr none) (fun _ vb _ => (intOf vb + 1).toNat)
  case atStart => exact ⟨35, Nat.le_refl _, rfl, rfl, grown_refl _ _⟩
  case round =>
    obtain ⟨m, hm, rfl, rfl, hg⟩ := hrel
    have HG := Lib.hid hg
    clear hg
    match m with
    | 0 =>
      obtain ⟨x, hx⟩ : ∃ x, x = Co.rootN p 35 := ⟨_, rfl⟩
      have hl := rootN_lt p 35 (by omega)
      have HR : Hid (Co.root p = x % 4294967296) := Lib.hid (by rw [hx]; rfl)
      have xl : x < 34359738368 := by rw [hx]; omega
      rw [Nat.sub_zero, ← hx, show ((0 : Nat) : Int) - 1 = -1 from rfl]
      clear hx hl
      go_wp2
      go_ret
      refine ⟨?_, HG.out⟩
      rw [HR.out]
      exact ret_int (by omega)
    | k + 1 =>
      obtain ⟨x, hx⟩ : ∃ x, x = Co.rootN p (35 - (k + 1)) := ⟨_, rfl⟩
      have hl := rootN_lt p (35 - (k + 1)) (by omega)
      have hpk : 0 < 2 ^ k := Nat.pow_pos (by decide)
      rw [show 35 - (35 - (k + 1)) = k + 1 by omega, Nat.pow_succ] at hl
      rw [← hx] at hl
      have HR : Hid (Co.rootN p (35 - k) = if Co.above (x + 2 ^ k) p then x else x + 2 ^ k) := Lib.hid (by
        rw [show 35 - k = (35 - (k + 1)) + 1 by omega, Co.rootN, ← hx, show 34 - (35 - (k + 1)) = k by omega])
      have hp2 : 2 ^ k ≤ 2 ^ 34 := Nat.pow_le_pow_right (by decide) (by omega)
      have hyl : x + 2 ^ k < 34359738368 := by omega
      rw [← hx, show ((k + 1 : Nat) : Int) - 1 = (k : Int) by omega]
      clear hx hl
      obtain ⟨y, hy⟩ : ∃ y, y = x + 2 ^ k := ⟨_, rfl⟩
      rw [← hy] at HR hyl
      have HY := Lib.hid hyl
      have hk : k < 35 := by omega
      have hw : IntKind.u64.wrap ((x : Int) + IntKind.u64.wrap (2 ^ k)) = (y : Int) := by
        rw [show ((2 : Int) ^ k) = ((2 ^ k : Nat) : Int) by simp, wrap_u64 _ (by omega), ← Int.natCast_add, ← hy, wrap_u64 _ (by omega)]
      have Hw := Lib.hid hw
      clear hw hy hyl hp2 hpk
      by_cases hab : Co.above y p = true
      · rw [hab, if_pos rfl] at HR
        go_wp2_with fail
        rw [Hw.out]
        refine (above_any y p HY.out (by omega) wr).mono ?_
        rintro e w2 ⟨rfl, hg2⟩
        rw [hab]
        have HG2 := Lib.hid (grown_trans HG.out hg2)
        clear hg2 hab
        go_wp2
        go_roundw
        case rel => exact ⟨k, by omega, rfl, by rw [HR.out], HG2.out⟩
        case measure => simp [intOf]
      · rw [if_neg hab] at HR
        go_wp2_with fail
        rw [Hw.out]
        refine (above_any y p HY.out (by omega) wr).mono ?_
        rintro e w2 ⟨rfl, hg2⟩
        rw [show Co.above y p = false by simpa using hab]
        have HG2 := Lib.hid (grown_trans HG.out hg2)
        clear hg2 hab
        go_wp2
        go_roundw
        case rel => exact ⟨k, by omega, rfl, by rw [HR.out], HG2.out⟩
        case measure => simp [intOf]
end Go.Proofs.YtckdkcfhkakcfaaDoor
