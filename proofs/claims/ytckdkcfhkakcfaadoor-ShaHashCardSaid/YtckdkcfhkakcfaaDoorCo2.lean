/- The walks of parts, above, root. -/
import Derived.Test.YtckdkcfhkakcfaaDoorCo1
namespace Go.Proofs.YtckdkcfhkakcfaaDoor
open Go.RowKit

theorem mul_lt {a b A B C : Nat} (ha : a ≤ A) (hb : b ≤ B) (hC : A * B ≤ C) : a * b ≤ C := Nat.le_trans (Nat.mul_le_mul ha hb) hC
theorem wrap_mul (a b : Nat) (h : a * b < 18446744073709551616) : IntKind.u64.wrap ((a : Int) * (b : Int)) = ((a * b : Nat) : Int) := by
  rw [← Int.natCast_mul]; exact wrap_u64 _ h

set_option maxRecDepth 100000 in
set_option maxHeartbeats 1000000 in
theorem parts_any (x y : Nat) (hx : x < 34359738368) (hy : y < 34359738368) (w : World) :
    Calls Tryd.prog 67 #[.int .u64 x, .int .u64 y] w fun e w' => e = .returned (.slice (some ⟨w.heap.size, 0, none⟩) 5 5) ∧ w.grownBy w' none ∧ IsLim w' w.heap.size (Co.parts x y) := by
  obtain ⟨xl, h1⟩ : ∃ xl, xl = x % 4294967296 := ⟨_, rfl⟩
  obtain ⟨xh, h2⟩ : ∃ xh, xh = x / 4294967296 := ⟨_, rfl⟩
  obtain ⟨yl, h3⟩ : ∃ yl, yl = y % 4294967296 := ⟨_, rfl⟩
  obtain ⟨yh, h4⟩ : ∃ yh, yh = y / 4294967296 := ⟨_, rfl⟩
  have e1 : (x : Int) % 4294967296 = (xl : Int) := by omega
  have e2 : (x : Int) / 4294967296 = (xh : Int) := by omega
  have e3 : (y : Int) % 4294967296 = (yl : Int) := by omega
  have e4 : (y : Int) / 4294967296 = (yh : Int) := by omega
  have b1 : xl * yl ≤ 18446744065119617025 := mul_lt (A := 4294967295) (B := 4294967295) (by omega) (by omega) (by decide)
  have b2 : xl * yh ≤ 18446744065119617025 := mul_lt (A := 4294967295) (B := 8) (by omega) (by omega) (by decide)
  have b3 : xh * yl ≤ 18446744065119617025 := mul_lt (A := 8) (B := 4294967295) (by omega) (by omega) (by decide)
  have b4 : xh * yh ≤ 18446744065119617025 := mul_lt (A := 8) (B := 8) (by omega) (by omega) (by decide)
  have m1 := wrap_mul xl yl (by omega)
  have m2 := wrap_mul xl yh (by omega)
  have m3 := wrap_mul xh yl (by omega)
  have m4 := wrap_mul xh yh (by omega)
  have HP : Hid (Co.parts x y = Co.add (Co.add (Co.add (Co.add Co.zero5 0 (xl * yl)) 1 (xl * yh)) 1 (xh * yl)) 2 (xh * yh)) := Lib.hid (by rw [h1, h2, h3, h4]; rfl)
  obtain ⟨p1, hp1⟩ : ∃ p, p = xl * yl := ⟨_, rfl⟩
  obtain ⟨p2, hp2⟩ : ∃ p, p = xl * yh := ⟨_, rfl⟩
  obtain ⟨p3, hp3⟩ : ∃ p, p = xh * yl := ⟨_, rfl⟩
  obtain ⟨p4, hp4⟩ : ∃ p, p = xh * yh := ⟨_, rfl⟩
  rw [← hp1] at m1 b1; rw [← hp2] at m2 b2; rw [← hp3] at m3 b3; rw [← hp4] at m4 b4
  rw [← hp1, ← hp2, ← hp3, ← hp4] at HP
  have k1 : p1 < 18446744073709551616 := by omega
  have k2 : p2 < 18446744073709551616 := by omega
  have k3 : p3 < 18446744073709551616 := by omega
  have k4 : p4 < 18446744073709551616 := by omega
  have K := Lib.hid (And.intro k1 (And.intro k2 (And.intro k3 k4)))
  clear h1 h2 h3 h4 hp1 hp2 hp3 hp4 b1 b2 b3 b4 k1 k2 k3 k4 hx hy
  go_enter Tryd.func67, Tryd.ntmps67
  go_wp2_with fail
  refine (coadd_any Co.zero5 Co.zero5_lim 0 p1 (by omega) K.out.1 w.heap.size _ (alloc_at w _)).mono ?_
  rintro e w1 ⟨rfl, g1, l1⟩
  have G1 := Lib.hid (grown_forget (World.grownBy_alloc w _ none) (Nat.le_refl _) g1)
  have L1 := Lib.hid l1
  clear g1 l1
  go_wp2_with fail
  refine (coadd_any _ (Co.add_lim Co.zero5_lim _ _) 1 p2 (by omega) K.out.2.1 w.heap.size _ L1.out).mono ?_
  rintro e w2 ⟨rfl, g2, l2⟩
  have G2 := Lib.hid (grown_forget G1.out (Nat.le_refl _) g2)
  have L2 := Lib.hid l2
  clear g2 l2 L1 G1
  go_wp2_with fail
  refine (coadd_any _ (Co.add_lim (Co.add_lim Co.zero5_lim _ _) _ _) 1 p3 (by omega) K.out.2.2.1 w.heap.size _ L2.out).mono ?_
  rintro e w3 ⟨rfl, g3, l3⟩
  have G3 := Lib.hid (grown_forget G2.out (Nat.le_refl _) g3)
  have L3 := Lib.hid l3
  clear g3 l3 L2 G2
  go_wp2_with fail
  refine (coadd_any _ (Co.add_lim (Co.add_lim (Co.add_lim Co.zero5_lim _ _) _ _) _ _) 2 p4 (by omega) K.out.2.2.2 w.heap.size _ L3.out).mono ?_
  rintro e w4 ⟨rfl, g4, l4⟩
  have G4 := Lib.hid (grown_forget G3.out (Nat.le_refl _) g4)
  have L4 := Lib.hid l4
  clear g4 l4 L3 G3
  go_wp2
  go_ret
  exact ⟨rfl, G4.out, by rw [HP.out]; exact L4.out⟩

set_option maxRecDepth 100000 in
set_option maxHeartbeats 1000000 in
theorem above_any (y p : Nat) (hy : y < 34359738368) (hp : p < 18446744073709551616) (w : World) :
    Calls Tryd.prog 60 #[.int .u64 y, .int .u64 p] w fun e w' => e = .returned (.bool (Co.above y p)) ∧ w.grownBy w' none := by
  obtain ⟨lo, h1⟩ : ∃ xl, xl = y % 4294967296 := ⟨_, rfl⟩
  obtain ⟨hi, h2⟩ : ∃ xh, xh = y / 4294967296 := ⟨_, rfl⟩
  have e1 : (y : Int) % 4294967296 = (lo : Int) := by omega
  have e2 : (y : Int) / 4294967296 = (hi : Int) := by omega
  have E1 := Lib.hid e1
  have E2 := Lib.hid e2
  have HY := Lib.hid hy
  have bl : lo ≤ 4294967295 := by omega
  have bh : hi ≤ 8 := by omega
  have HA : Hid (Co.above y p = Co.cmp (Co.cube (Co.parts y y) lo hi Co.zero5 3) p) := Lib.hid (by rw [h1, h2]; rfl)
  have Hp := Lib.hid hp
  have Hl := Lib.hid (Co.parts_lim y y)
  obtain ⟨a, ha⟩ : ∃ a, a = Co.parts y y := ⟨_, rfl⟩
  rw [← ha] at HA Hl
  have Ha := Lib.hid ha
  clear h1 h2 e1 e2 hy hp ha
  go_enter Tryd.func60, Tryd.ntmps60
  go_wp2_with fail
  refine (parts_any y y HY.out HY.out w).mono ?_
  rintro e w1 ⟨rfl, g1, l1⟩
  rw [← Ha.out] at l1
  have G1 := Lib.hid g1
  have L1 := Lib.hid l1
  clear g1 l1
  go_wp2
  rw [E1.out, E2.out]
  have G2 := Lib.hid (grown_alloc G1.out (.cells (u64V Co.zero5) 95))
  have L2 : Hid (IsLim (w1.alloc (.cells (u64V Co.zero5) 95)) w1.heap.size Co.zero5) := Lib.hid (alloc_at _ _)
  have hsz : w.heap.size < w1.heap.size := blk_lt L1.out
  have L3 : Hid (IsLim (w1.alloc (.cells (u64V Co.zero5) 95)) w.heap.size a) := Lib.hid ((alloc_old _ _ _ hsz).trans L1.out)
  go_loopw [9] (fun i wr => ∃ k : Nat, k ≤ 3 ∧ i = .int .i64 k ∧ w.grownBy wr none ∧ IsLim wr w.heap.size a ∧ IsLim wr w1.heap.size (Co.cube a lo hi Co.zero5 k)) (fun i _ => 3 - (intOf i).toNat)
  case atStart => exact ⟨0, Nat.zero_le _, rfl, G2.out, L3.out, L2.out⟩
  case round =>
    obtain ⟨k, hk, rfl, hg, ha, hb⟩ := hrel
    by_cases hlt : k < 3
    · obtain ⟨x, hx⟩ : ∃ x, x = a.getD k 0 := ⟨_, rfl⟩
      have xl : x < 4294967296 := by rw [hx]; exact Hl.out.at k
      have c := cell_blk ha k (u64V_at a k (by rw [Hl.out.len]; omega))
      rw [← hx] at c
      have b1 : x * lo ≤ 18446744065119617025 := mul_lt (A := 4294967295) (B := 4294967295) (by omega) (by omega) (by decide)
      have b2 : x * hi ≤ 18446744065119617025 := mul_lt (A := 4294967295) (B := 8) (by omega) (by omega) (by decide)
      have m1 := wrap_mul x lo (by omega)
      have m2 := wrap_mul x hi (by omega)
      have HC : Hid (Co.cube a lo hi Co.zero5 (k + 1) = Co.add (Co.add (Co.cube a lo hi Co.zero5 k) k (x * lo)) (k + 1) (x * hi)) := Lib.hid (by rw [hx]; rfl)
      obtain ⟨p1, hp1⟩ : ∃ p, p = x * lo := ⟨_, rfl⟩
      obtain ⟨p2, hp2⟩ : ∃ p, p = x * hi := ⟨_, rfl⟩
      rw [← hp1] at m1 b1; rw [← hp2] at m2 b2
      rw [← hp1, ← hp2] at HC
      have K1 : Hid (p1 < 18446744073709551616) := Lib.hid (by omega)
      have K2 : Hid (p2 < 18446744073709551616) := Lib.hid (by omega)
      have HLim := Lib.hid (Co.cube_lim a lo hi Co.zero5_lim k)
      have HG := Lib.hid hg
      have HA' := Lib.hid ha
      have HB' := Lib.hid hb
      clear hx hp1 hp2 b1 b2 hg ha hb
      go_wp2_with fail
      refine (coadd_any _ HLim.out k p1 (by omega) K1.out w1.heap.size wr HB'.out).mono ?_
      rintro e w2 ⟨rfl, g2, l2⟩
      have c2 : w2.cell? ⟨w.heap.size, k, none⟩ = some (.int .u64 (x : Int)) := by rw [World.cell?_of_block (g2.block w.heap.size (blk_lt HA'.out) (by simp; omega))]; exact c
      have HG2 := Lib.hid (grown_forget HG.out (by omega) g2)
      have HA2 : Hid (IsLim w2 w.heap.size a) := Lib.hid ((g2.block w.heap.size (blk_lt HA'.out) (by simp; omega)).trans HA'.out)
      have HB2 := Lib.hid l2
      clear g2 l2 c
      go_wp2_with fail
      refine (coadd_any _ (Co.add_lim HLim.out _ _) (k + 1) p2 (by omega) K2.out w1.heap.size w2 HB2.out).mono ?_
      rintro e w3 ⟨rfl, g3, l3⟩
      have HG3 := Lib.hid (grown_forget HG2.out (by omega) g3)
      have HA3 : Hid (IsLim w3 w.heap.size a) := Lib.hid ((g3.block w.heap.size (blk_lt HA2.out) (by simp; omega)).trans HA2.out)
      have HB3 := Lib.hid l3
      clear g3 l3 c2
      go_wp2
      go_roundw
      case rel => exact ⟨k + 1, by omega, by go_num, HG3.out, HA3.out, by rw [HC.out]; exact HB3.out⟩
      case measure => simp [intOf]; omega
    · obtain rfl : k = 3 := by omega
      obtain ⟨B, hB⟩ : ∃ B, B = Co.cube a lo hi Co.zero5 3 := ⟨_, rfl⟩
      have hLim := Co.cube_lim a lo hi Co.zero5_lim 3
      rw [← hB] at hb hLim HA
      obtain ⟨c0, h0⟩ : ∃ x, x = B.getD 0 0 := ⟨_, rfl⟩
      obtain ⟨c1, h1⟩ : ∃ x, x = B.getD 1 0 := ⟨_, rfl⟩
      obtain ⟨c2, h2⟩ : ∃ x, x = B.getD 2 0 := ⟨_, rfl⟩
      obtain ⟨c3, h3⟩ : ∃ x, x = B.getD 3 0 := ⟨_, rfl⟩
      obtain ⟨c4, h4⟩ : ∃ x, x = B.getD 4 0 := ⟨_, rfl⟩
      have f0 := cell_blk hb 0 (u64V_at B 0 (by rw [hLim.len]; omega))
      have f1 := cell_blk hb 1 (u64V_at B 1 (by rw [hLim.len]; omega))
      have f2 := cell_blk hb 2 (u64V_at B 2 (by rw [hLim.len]; omega))
      have f3 := cell_blk hb 3 (u64V_at B 3 (by rw [hLim.len]; omega))
      have f4 := cell_blk hb 4 (u64V_at B 4 (by rw [hLim.len]; omega))
      rw [← h0] at f0; rw [← h1] at f1; rw [← h2] at f2; rw [← h3] at f3; rw [← h4] at f4
      have HC : Hid (Co.above y p = if 0 < c4 ∨ p < c3 then true else decide (c3 = p ∧ (0 < c0 ∨ 0 < c1 ∨ 0 < c2))) := Lib.hid (by rw [HA.out]; unfold Co.cmp; rw [h0, h1, h2, h3, h4])
      have HG := Lib.hid hg
      clear h0 h1 h2 h3 h4 hb hB hLim hg ha
      by_cases q4 : 0 < c4
      · go_wp2
        go_ret
        exact ⟨by rw [HC.out]; simp [q4], HG.out⟩
      · by_cases q3 : p < c3
        · go_wp2
          go_ret
          exact ⟨by rw [HC.out]; simp [q3], HG.out⟩
        · by_cases q : c3 = p
          · have hq : ((c3 : Int) == (p : Int)) = true := beq_iff_eq.2 (by omega)
            by_cases q0 : 0 < c0
            · go_wp2
              go_ret
              exact ⟨by rw [HC.out]; simp [q0, q, q3, q4], HG.out⟩
            · by_cases q1 : 0 < c1
              · go_wp2
                go_ret
                exact ⟨by rw [HC.out]; simp [q0, q1, q, q3, q4], HG.out⟩
              · by_cases q2 : 0 < c2
                · go_wp2
                  go_ret
                  exact ⟨by rw [HC.out]; simp [q0, q1, q2, q, q3, q4], HG.out⟩
                · go_wp2
                  go_ret
                  exact ⟨by rw [HC.out]; simp [q0, q1, q2, q, q3, q4], HG.out⟩
          · have hq : ((c3 : Int) == (p : Int)) = false := beq_eq_false_iff_ne.2 (by omega)
            go_wp2
            go_ret
            exact ⟨by rw [HC.out]; simp [q, q3, q4], HG.out⟩

theorem rootN_lt (p : Nat) : ∀ n, n ≤ 35 → Co.rootN p n ≤ 34359738368 - 2 ^ (35 - n)
  | 0, _ => Nat.zero_le _
  | n + 1, h => by
    have ih := rootN_lt p n (by omega)
    have e : 2 ^ (35 - n) = 2 * 2 ^ (34 - n) := by rw [show 35 - n = (34 - n) + 1 by omega, Nat.pow_succ, Nat.mul_comm]
    have hp : 2 ^ (34 - n) ≤ 2 ^ 34 := Nat.pow_le_pow_right (by decide) (by omega)
    have hp2 : 0 < 2 ^ (34 - n) := Nat.pow_pos (by decide)
    rw [Co.rootN, show 35 - (n + 1) = 34 - n by omega]
    generalize 2 ^ (34 - n) = z at *
    split <;> omega

set_option maxRecDepth 100000 in
set_option maxHeartbeats 1000000 in
theorem root_any (p : Nat) (hp : p < 1000) (w : World) :
    Calls Tryd.prog 49 #[.int .i64 p] w fun e w' => e = .returned (.int .i64 (Co.root p : Nat)) ∧ w.grownBy w' none := by
  go_enter Tryd.func49, Tryd.ntmps49
  go_wp2
  go_loopw [3, 4] (fun vx vb wr => ∃ m : Nat, m ≤ 35 ∧ vb = .int .i64 ((m : Int) - 1) ∧ vx = .int .u64 (Co.rootN p (35 - m) : Nat) ∧ w.grownBy wr none) (fun _ vb _ => (intOf vb + 1).toNat)
  case atStart => exact ⟨35, Nat.le_refl _, rfl, rfl, grown_refl _ _⟩
  case round =>
    obtain ⟨m, hm, rfl, rfl, hg⟩ := hrel
    have HG := Lib.hid hg
    clear hg
    match m with
    | 0 =>
      obtain ⟨x, hx⟩ : ∃ x, x = Co.rootN p 35 := ⟨_, rfl⟩
      have hl := rootN_lt p 35 (by omega)
      have HR : Hid (Co.root p = x % 4294967296) := Lib.hid (by rw [hx]; rfl)
      have xl : x < 34359738368 := by rw [hx]; omega
      rw [Nat.sub_zero, ← hx, show ((0 : Nat) : Int) - 1 = -1 from rfl]
      clear hx hl
      go_wp2
      go_ret
      refine ⟨?_, HG.out⟩
      rw [HR.out]
      exact ret_int (by omega)
    | k + 1 =>
      obtain ⟨x, hx⟩ : ∃ x, x = Co.rootN p (35 - (k + 1)) := ⟨_, rfl⟩
      have hl := rootN_lt p (35 - (k + 1)) (by omega)
      have hpk : 0 < 2 ^ k := Nat.pow_pos (by decide)
      rw [show 35 - (35 - (k + 1)) = k + 1 by omega, Nat.pow_succ] at hl
      rw [← hx] at hl
      have HR : Hid (Co.rootN p (35 - k) = if Co.above (x + 2 ^ k) p then x else x + 2 ^ k) := Lib.hid (by
        rw [show 35 - k = (35 - (k + 1)) + 1 by omega, Co.rootN, ← hx, show 34 - (35 - (k + 1)) = k by omega])
      have hp2 : 2 ^ k ≤ 2 ^ 34 := Nat.pow_le_pow_right (by decide) (by omega)
      have hyl : x + 2 ^ k < 34359738368 := by omega
      rw [← hx, show ((k + 1 : Nat) : Int) - 1 = (k : Int) by omega]
      clear hx hl
      obtain ⟨y, hy⟩ : ∃ y, y = x + 2 ^ k := ⟨_, rfl⟩
      rw [← hy] at HR hyl
      have HY := Lib.hid hyl
      have hk : k < 35 := by omega
      have hw : IntKind.u64.wrap ((x : Int) + IntKind.u64.wrap (2 ^ k)) = (y : Int) := by
        rw [show ((2 : Int) ^ k) = ((2 ^ k : Nat) : Int) by simp, wrap_u64 _ (by omega), ← Int.natCast_add, ← hy, wrap_u64 _ (by omega)]
      have Hw := Lib.hid hw
      clear hw hy hyl hp2 hpk
      by_cases hab : Co.above y p = true
      · rw [hab, if_pos rfl] at HR
        go_wp2_with fail
        rw [Hw.out]
        refine (above_any y p HY.out (by omega) wr).mono ?_
        rintro e w2 ⟨rfl, hg2⟩
        rw [hab]
        have HG2 := Lib.hid (grown_trans HG.out hg2)
        clear hg2 hab
        go_wp2
        go_roundw
        case rel => exact ⟨k, by omega, rfl, by rw [HR.out], HG2.out⟩
        case measure => simp [intOf]
      · rw [if_neg hab] at HR
        go_wp2_with fail
        rw [Hw.out]
        refine (above_any y p HY.out (by omega) wr).mono ?_
        rintro e w2 ⟨rfl, hg2⟩
        rw [show Co.above y p = false by simpa using hab]
        have HG2 := Lib.hid (grown_trans HG.out hg2)
        clear hg2 hab
        go_wp2
        go_roundw
        case rel => exact ⟨k, by omega, rfl, by rw [HR.out], HG2.out⟩
        case measure => simp [intOf]
end Go.Proofs.YtckdkcfhkakcfaaDoor
