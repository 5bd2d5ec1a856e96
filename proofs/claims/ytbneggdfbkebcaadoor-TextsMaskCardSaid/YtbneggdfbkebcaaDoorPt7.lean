/- The walk of the document's Mask. -/
import Derived.Test.YtbneggdfbkebcaaDoorPt6
namespace Go.Proofs.YtbneggdfbkebcaaDoor
open Go.RowKit
set_option linter.unusedVariables false

namespace Pt
/-- All bits of a body of one or two bytes of bits. -/
def bitsOf (l : List Nat) : Nat := rev8 (l.getD 1 0) + 256 * (if l.length = 3 then rev8 (l.getD 2 0) else 0)
theorem bitsOf_lt {l : List Nat} (h : l.length = 2 ∨ l.length = 3) : bitsOf l < 2 ^ (8 * (l.length - 1)) := by
  have a := rev8_lt (l.getD 1 0)
  have b := rev8_lt (l.getD 2 0)
  unfold bitsOf
  generalize rev8 (l.getD 1 0) = x at *
  generalize rev8 (l.getD 2 0) = y at *
  rcases h with h | h
  · rw [h, if_neg (by decide)]; show x + 256 * 0 < 256; omega
  · rw [h, if_pos rfl]; show x + 256 * y < 65536; omega
theorem bitsOf_low (l : List Nat) : bitsOf l % 256 = rev8 (l.getD 1 0) := by
  have a := rev8_lt (l.getD 1 0)
  unfold bitsOf
  generalize rev8 (l.getD 1 0) = x at *
  generalize (if l.length = 3 then rev8 (l.getD 2 0) else 0) = y
  omega
theorem bitsOf_high {l : List Nat} (h : l.length = 3) : bitsOf l / 256 = rev8 (l.getD 2 0) := by
  have a := rev8_lt (l.getD 1 0)
  unfold bitsOf
  rw [if_pos h]
  generalize rev8 (l.getD 1 0) = x at *
  generalize rev8 (l.getD 2 0) = y
  omega
theorem bitsOf_bit {l : List Nat} (h8 : ∀ j, l.getD j 0 < 256) (h : l.length = 2 ∨ l.length = 3) {i : Nat} (hi : i < 8 * (l.length - 1)) : l.getD (1 + i / 8) 0 / 2 ^ (7 - i % 8) % 2 = bitsOf l / 2 ^ i % 2 := by
  rcases Nat.lt_or_ge i 8 with h1 | h1
  · rw [show 1 + i / 8 = 1 by omega, show i % 8 = i by omega, rev8_bit (h8 _) h1, ← bit_lo (bitsOf l) i h1, bitsOf_low]
  · obtain ⟨k, rfl⟩ : ∃ k, i = 8 + k := ⟨i - 8, by omega⟩
    have h3 : l.length = 3 := by omega
    rw [show 1 + (8 + k) / 8 = 2 by omega, show (8 + k) % 8 = k by omega, rev8_bit (h8 _) (by omega), bit_high, bitsOf_high h3]
theorem mask_two {l : List Nat} (h : l.length = 2 ∨ l.length = 3) (hu : l.getD 0 0 ≤ 7) :
    mask l = if 2 ^ (8 * (l.length - 1) - l.getD 0 0 - 1) ≤ bitsOf l ∧ bitsOf l < 2 ^ (8 * (l.length - 1) - l.getD 0 0) then (if bitsOf l < 32768 then .ok (bitsOf l) else .error 1) else .error 4 := by
  match l, h, hu with
  | [u, x], _, hu =>
    have a := rev8_lt x
    have hu' : u ≤ 7 := hu
    have e : bitsOf [u, x] = rev8 x := by simp [bitsOf]
    show mask [u, x] = if 2 ^ (8 - u - 1) ≤ bitsOf [u, x] ∧ bitsOf [u, x] < 2 ^ (8 - u) then _ else _
    rw [e, if_pos (show rev8 x < 32768 by omega), mask, show 8 - u - 1 = 7 - u by omega]
    by_cases c : 2 ^ (7 - u) ≤ rev8 x ∧ rev8 x < 2 ^ (8 - u)
    · rw [if_pos ⟨hu', c⟩, if_pos c]
    · rw [if_neg (fun h => c h.2), if_neg c]
  | [u, x, y], _, hu =>
    have hu' : u ≤ 7 := hu
    have e : bitsOf [u, x, y] = rev8 x + 256 * rev8 y := by simp [bitsOf]
    show mask [u, x, y] = if 2 ^ (16 - u - 1) ≤ bitsOf [u, x, y] ∧ bitsOf [u, x, y] < 2 ^ (16 - u) then _ else _
    rw [e, mask, show 16 - u - 1 = 15 - u by omega]
    by_cases c : 2 ^ (15 - u) ≤ rev8 x + 256 * rev8 y ∧ rev8 x + 256 * rev8 y < 2 ^ (16 - u)
    · rw [if_pos ⟨hu', c⟩, if_pos c]
    · rw [if_neg (fun h => c h.2), if_neg c]
  | [], h, _ => simp at h
  | [_], h, _ => simp at h
  | _ :: _ :: _ :: _ :: _, h, _ => simp at h
theorem mask_bad {l : List Nat} (h0 : l ≠ []) (h : 7 < l.getD 0 0 ∨ 3 < l.length ∨ (l.length = 1 ∧ 0 < l.getD 0 0)) : mask l = .error 4 := by
  match l, h0, h with
  | [u], _, h =>
    have : 0 < u := by simp at h; omega
    rw [mask, if_neg (by omega)]
  | [u, x], _, h =>
    have : 7 < u := by simpa using h
    rw [mask, if_neg (by omega)]
  | [u, x, y], _, h =>
    have : 7 < u := by simpa using h
    rw [mask, if_neg (by omega)]
  | _ :: _ :: _ :: _ :: _, _, _ => rw [mask]; all_goals simp
theorem mod_step (M i : Nat) : M % 2 ^ (i + 1) = M % 2 ^ i + 2 ^ i * (M / 2 ^ i % 2) := Nat.mod_pow_succ
end Pt
/-- What the document's Mask answers. -/
def maskOut : Except Nat Nat → Value
  | .ok n => .tuple #[.int .i64 (n : Int), .int .i64 0]
  | .error k => .tuple #[.int .i64 0, .int .i64 (k : Int)]

theorem mo_ok (n : Nat) : maskOut (.ok n) = .tuple #[.int .i64 (n : Int), .int .i64 0] := rfl
theorem mo_er (k : Nat) : maskOut (.error k) = .tuple #[.int .i64 0, .int .i64 (k : Int)] := rfl
set_option maxRecDepth 100000 in
set_option maxHeartbeats 2000000 in
theorem refMask_any (v : Value) (l : List Nat) (w : World) (hB : Bytes w v l) (hl : l.length ≤ 1000) : Calls Tryd.prog 20 #[v] w fun e w' => e = .returned (maskOut (Pt.mask l)) ∧ w' = w := by
  obtain ⟨h8, a, sb, so, c, rfl, hc, ha, hcell⟩ := hB
  by_cases h0 : l.length = 0
  · obtain rfl := List.eq_nil_of_length_eq_zero h0
    rw [show maskOut (Pt.mask []) = .tuple #[.int .i64 0, .int .i64 2] from rfl]
    go_enter Tryd.func20, Tryd.ntmps20
    go_wp2
    go_ret2
    exact ⟨rfl, rfl⟩
  · obtain ⟨rfl, hsb⟩ := ha (by omega)
    have HC : Hid (∀ j, j < l.length → w.cell? ⟨sb, so + j, none⟩ = some (.int .u8 ((l.getD j 0 : Nat) : Int))) := Lib.hid hcell
    have H8 : Hid (∀ j, l.getD j 0 < 256) := Lib.hid (fun j => by
      rcases Nat.lt_or_ge j l.length with h | h
      · rw [List.getD_eq_getElem?_getD, List.getElem?_eq_getElem h]; exact h8 _ (List.getElem_mem h)
      · rw [List.getD_eq_getElem?_getD, List.getElem?_eq_none h]; decide)
    have HBad := Lib.hid (Pt.mask_bad (l := l) (fun e => h0 (by rw [e]; rfl)))
    have c0 := hcell 0 (by omega)
    rw [Nat.add_zero] at c0
    have hu8 := H8.out 0
    obtain ⟨u, hu⟩ : ∃ u, u = l.getD 0 0 := ⟨_, rfl⟩
    rw [← hu] at c0 HBad hu8
    obtain ⟨n, hn⟩ : ∃ n, n = l.length := ⟨_, rfl⟩
    have hne : ((n : Int) == 0) = false := beq_eq_false_iff_ne.2 (by omega)
    have hn0 : n ≠ 0 := by omega
    rw [← hn] at HC HBad hc hl ⊢
    have HN := Lib.hid hn
    have HU := Lib.hid hu
    have E4 : Hid (maskOut (.error 4) = .tuple #[.int .i64 0, .int .i64 4]) := Lib.hid rfl
    clear hcell ha h8 h0 hn hu
    rcases Nat.lt_or_ge 7 u with u1 | u1
    · have HE := Lib.hid (HBad.out (.inl u1))
      rw [HE.out, E4.out]
      go_enter Tryd.func20, Tryd.ntmps20
      go_wp2
      go_ret2
      exact ⟨rfl, rfl⟩
    · rcases Nat.lt_or_ge 3 n with n1 | n1
      · have HE := Lib.hid (HBad.out (.inr (.inl n1)))
        rw [HE.out, E4.out]
        go_enter Tryd.func20, Tryd.ntmps20
        go_wp2
        go_ret2
        exact ⟨rfl, rfl⟩
      · by_cases n2 : n = 1
        · subst n2
          by_cases u0 : u = 0
          · subst u0
            have HE : Hid (Pt.mask l = .ok 0) := Lib.hid (by
              have hn := HN.out
              have hu := HU.out
              match l, hn, hu with
              | [x], _, hu =>
                have : x = 0 := hu.symm
                rw [this]; rfl)
            rw [HE.out, show maskOut (.ok 0) = .tuple #[.int .i64 0, .int .i64 0] from rfl]
            have c0 : w.cell? ⟨sb, so, none⟩ = some (.int .u8 0) := c0
            go_enter Tryd.func20, Tryd.ntmps20
            go_wp2
            go_loopw [5, 6] (fun m i wr => m = .int .i64 0 ∧ i = .int .i64 0 ∧ wr = w) (fun _ i _ => 0)
            case atStart => exact ⟨rfl, rfl, rfl⟩
            case round =>
              obtain ⟨rfl, rfl, rfl⟩ := hrel
              go_wp2
              go_ret2
              exact ⟨rfl, rfl⟩
          · have HE := Lib.hid (HBad.out (.inr (.inr ⟨rfl, by omega⟩)))
            rw [HE.out, E4.out]
            have hne1 : (((1 : Nat) : Int) - 1) * 8 - (u : Int) < 0 := by omega
            have up : 0 < u := by omega
            clear u0
            go_enter Tryd.func20, Tryd.ntmps20
            go_wp2
            go_ret2
            exact ⟨rfl, rfl⟩
        · have h23 : l.length = 2 ∨ l.length = 3 := by have := HN.out; omega
          have hmt := Pt.mask_two h23 (by rw [← HU.out]; exact u1)
          have HBt := Lib.hid (fun i h => Pt.bitsOf_bit (l := l) H8.out h23 (i := i) h)
          have hlt := Pt.bitsOf_lt h23
          rw [← HN.out, ← HU.out] at hmt
          rw [← HN.out] at HBt hlt
          have HMs := Lib.hid (Pt.mod_step (Pt.bitsOf l))
          generalize Pt.bitsOf l = M at *
          obtain ⟨N, hN⟩ : ∃ N, N = 8 * (n - 1) := ⟨_, rfl⟩
          obtain ⟨t, ht⟩ : ∃ t, t = N - u := ⟨_, rfl⟩
          rw [← hN] at hmt HBt hlt
          rw [← ht] at hmt
          have HMT := Lib.hid hmt
          have HLt := Lib.hid hlt
          have ht1 : 1 ≤ t := by omega
          have hN16 : N ≤ 16 := by omega
          have htN : t ≤ N := by omega
          have hNi : ((n : Int) - 1) * 8 = (N : Int) := by omega
          have hti : (N : Int) - (u : Int) = (t : Int) := by omega
          have HQ : Hid (∀ i, i < N → 1 + i / 8 < n) := Lib.hid (fun i hi => by omega)
          have HM4 : Hid (¬ M < 2 ^ t → Pt.mask l = .error 4) := Lib.hid (fun h => by rw [hmt, if_neg (fun h2 => h h2.2)])
          clear hmt hlt hN ht n2 h23
          go_enter Tryd.func20, Tryd.ntmps20
          go_wp2
          clear c0
          go_loopw [5, 6] (fun m i wr => ∃ j : Nat, j ≤ N ∧ i = .int .i64 (j : Int) ∧ m = .int .i64 ((M % 2 ^ j : Nat) : Int) ∧ (M % 2 ^ j < 2 ^ t) ∧ wr = w) (fun _ i _ => N - (intOf i).toNat)
          case atStart => exact ⟨0, Nat.zero_le _, rfl, by rw [Nat.pow_zero, Nat.mod_one]; rfl, by rw [Nat.pow_zero, Nat.mod_one]; exact Nat.pow_pos (by decide), rfl⟩
          case round =>
            obtain ⟨j, hj, rfl, rfl, hjt, rfl⟩ := hrel
            have HJt := Lib.hid hjt
            clear hjt
            by_cases hjN : j < N
            · have hq := HQ.out j hjN
              have hcj := HC.out _ hq
              have hbt := HBt.out j hjN
              have hms := HMs.out j
              obtain ⟨r, hrr⟩ : ∃ r, r = j % 8 := ⟨_, rfl⟩
              have hri : (j : Int) % 8 = (r : Int) := by omega
              obtain ⟨cc, hcc⟩ : ∃ cc, cc = 7 - r := ⟨_, rfl⟩
              have hci : (7 : Int) - (r : Int) = (cc : Int) := by omega
              have hc7 : cc ≤ 7 := by omega
              obtain ⟨q, hqq⟩ : ∃ q, q = 1 + j / 8 := ⟨_, rfl⟩
              have hqi : (1 : Int) + (j : Int) / 8 = (q : Int) := by omega
              rw [← hrr, ← hcc] at hbt
              rw [← hqq] at hbt hcj hq
              have hx8 := H8.out q
              generalize l.getD q 0 = x at *
              have hb1 := shr_nat x cc
              have hb2 := shr_nat' x cc
              rw [hbt] at hb1 hb2
              have HBit : Hid (M / 2 ^ j % 2 < 2) := Lib.hid (Nat.mod_lt _ (by decide))
              have hpw : (2 : Nat) ^ j ≤ 65536 := Nat.pow_le_pow_right (n := 2) (j := 16) (by decide) (by omega)
              have hmm : M % 2 ^ j < 65536 := Nat.lt_of_lt_of_le (Nat.mod_lt _ (Nat.pow_pos (by decide))) hpw
              clear hbt hrr hcc hqq
              by_cases hbit : M / 2 ^ j % 2 = 1
              · rw [hbit] at hb1 hb2 hms
                have hb1 : ((x : Int) / 2 ^ cc).tmod 2 = 1 := hb1
                have hb2 : ((x : Int) / 2 ^ cc) % 2 = 1 := hb2
                rw [Nat.mul_one] at hms
                have HMs2 := Lib.hid hms
                by_cases hjt : t ≤ j
                · have HE := Lib.hid (HM4.out (fun h => by
                    have h1 : M % 2 ^ (j + 1) ≤ M := Nat.mod_le _ _
                    have h2 : 2 ^ t ≤ 2 ^ j := Nat.pow_le_pow_right (by decide) hjt
                    omega))
                  clear hms hbit
                  go_wp2
                  go_ret2
                  exact ⟨by rw [HE.out]; rfl, rfl⟩
                · have HNx : Hid (M % 2 ^ (j + 1) < 2 ^ t) := Lib.hid (by
                    have h1 : M % 2 ^ (j + 1) < 2 ^ (j + 1) := Nat.mod_lt _ (Nat.pow_pos (by decide))
                    have h2 : 2 ^ (j + 1) ≤ 2 ^ t := Nat.pow_le_pow_right (by decide) (by omega)
                    omega)
                  generalize M % 2 ^ j = a at *
                  have hsh : (2 : Int) ^ j = ((2 ^ j : Nat) : Int) := by rw [Int.natCast_pow]; rfl
                  obtain ⟨pw, hpw2⟩ : ∃ pw, pw = 2 ^ j := ⟨_, rfl⟩
                  rw [← hpw2] at hsh HMs2 hpw
                  clear hms hbit hpw2
                  go_wp2
                  go_roundw
                  case rel => exact ⟨j + 1, by omega, by go_num, by rw [HMs2.out]; go_num, HNx.out, trivial⟩
                  case measure => simp [intOf]; omega
              · have hb0 : M / 2 ^ j % 2 = 0 := by have := HBit.out; omega
                rw [hb0] at hb1 hb2 hms
                have hb1 : ((x : Int) / 2 ^ cc).tmod 2 = 0 := hb1
                have hb2 : ((x : Int) / 2 ^ cc) % 2 = 0 := hb2
                rw [Nat.mul_zero] at hms
                have hms : M % 2 ^ (j + 1) = M % 2 ^ j := hms
                have HMs2 := Lib.hid hms
                clear hms hbit hb0
                go_wp2
                go_roundw
                case rel => exact ⟨j + 1, by omega, by go_num, by rw [HMs2.out], by rw [HMs2.out]; exact HJt.out, trivial⟩
                case measure => simp [intOf]; omega
            · obtain rfl : j = N := by omega
              have hmN : M % 2 ^ j = M := Nat.mod_eq_of_lt HLt.out
              rw [hmN] at HJt ⊢
              have HMT2 : Hid (Pt.mask l = if 2 ^ (t - 1) ≤ M then (if M < 32768 then .ok M else .error 1) else .error 4) := Lib.hid (by
                rw [HMT.out]
                have := HJt.out
                by_cases h : 2 ^ (t - 1) ≤ M
                · rw [if_pos ⟨h, this⟩, if_pos h]
                · rw [if_neg (fun h2 => h h2.1), if_neg h])
              have hM16 : M < 65536 := Nat.lt_of_lt_of_le HLt.out (Nat.pow_le_pow_right (n := 2) (j := 16) (by decide) hN16)
              clear hmN
              obtain ⟨t1, ht1'⟩ : ∃ t1, t1 = t - 1 := ⟨_, rfl⟩
              have hti1 : (t : Int) - 1 = (t1 : Int) := by omega
              have ht16 : t1 ≤ 15 := by omega
              rw [← ht1'] at HMT2
              have hsh : (2 : Int) ^ t1 = ((2 ^ t1 : Nat) : Int) := by rw [Int.natCast_pow]; rfl
              have hpw : (2 : Nat) ^ t1 ≤ 32768 := Nat.pow_le_pow_right (n := 2) (j := 15) (by decide) ht16
              generalize 2 ^ t1 = pw at *
              clear ht1'
              by_cases g1 : pw ≤ M
              · rcases Nat.lt_or_ge M 32768 with g2 | g2
                · have HE : Hid (Pt.mask l = .ok M) := Lib.hid (by rw [HMT2.out, if_pos g1, if_pos g2])
                  obtain ⟨z, hz⟩ : ∃ z : Int, z = (M : Int) := ⟨_, rfl⟩
                  have g2i : z < 32768 := by omega
                  have hpi : (pw : Int) ≤ 32768 := by omega
                  have g1z : (pw : Int) ≤ z := by omega
                  have HZ := Lib.hid hz
                  rw [← hz]
                  clear g2 hM16 hpw g1 hz
                  go_wp2
                  go_ret2
                  have hzz := HZ.out
                  subst hzz
                  exact ⟨by rw [HE.out, mo_ok]; rfl, rfl⟩
                · have HE : Hid (Pt.mask l = .error 1) := Lib.hid (by rw [HMT2.out, if_pos g1, if_neg (by omega)])
                  obtain ⟨z, hz⟩ : ∃ z : Int, z = (M : Int) := ⟨_, rfl⟩
                  have g2i : 32768 ≤ z := by omega
                  have hpi : (pw : Int) ≤ 32768 := by omega
                  have g1z : (pw : Int) ≤ z := by omega
                  rw [← hz]
                  clear g2 hM16 hpw g1 hz
                  go_wp2
                  go_ret2
                  exact ⟨by rw [HE.out, mo_er]; simp, rfl⟩
              · have HE : Hid (Pt.mask l = .error 4) := Lib.hid (by rw [HMT2.out, if_neg g1])
                go_wp2
                go_ret2
                exact ⟨by rw [HE.out]; rfl, rfl⟩
end Go.Proofs.YtbneggdfbkebcaaDoor
