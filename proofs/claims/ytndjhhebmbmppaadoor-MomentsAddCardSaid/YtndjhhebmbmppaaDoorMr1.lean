/- The walks of the document's Leap, Days, before. -/
import Derived.Test.YtndjhhebmbmppaaDoorCa3
import Derived.Test.YtndjhhebmbmppaaDoorIn1
import Derived.Test.YtndjhhebmbmppaaDoorChecked
import Derived.WalkKit
import Derived.BigQuiet
import Derived.Lib.Hide
namespace Go.Proofs.YtndjhhebmbmppaaDoor
open Go.RowKit

theorem retB2 {a b : Bool} (h : a = b) : Ending.returned (.bool a) = .returned (.bool b) := by rw [h]
theorem retI2 {a b : Int} (h : a = b) : Ending.returned (.int .i64 a) = .returned (.int .i64 b) := by rw [h]
set_option maxRecDepth 100000 in
theorem refLeap_any (y : Int) (w : World) : Calls Tryd.prog 24 #[.int .i64 y] w fun e w' => e = .returned (.bool (Cal.leapI y)) ∧ w' = w := by
  have HL : Hid (Cal.leapI y = (decide (y.tmod 400 = 0) || (decide (y.tmod 4 = 0) && decide (y.tmod 100 ≠ 0)))) := Lib.hid (by
    unfold Cal.leapI
    have e1 := Cal.tmod_zero y 400 (by decide)
    have e2 := Cal.tmod_zero y 4 (by decide)
    have e3 := Cal.tmod_zero y 100 (by decide)
    simp only [← e1, ← e2, ne_eq, ← e3])
  generalize Cal.leapI y = R at *
  generalize h1 : y.tmod 400 = a at *
  generalize h2 : y.tmod 4 = b at *
  generalize h3 : y.tmod 100 = c at *
  by_cases ha : a = 0
  · subst ha
    go_enter Tryd.func24, Tryd.ntmps24
    go_wp2
    go_ret
    exact ⟨retB2 (by rw [HL.out]; simp), rfl⟩
  · have ha' : (a == 0) = false := beq_eq_false_iff_ne.2 ha
    by_cases hb : b = 0
    · subst hb
      by_cases hc : c = 0
      · subst hc
        go_enter Tryd.func24, Tryd.ntmps24
        go_wp2
        go_ret
        exact ⟨retB2 (by rw [HL.out]; simp [ha]), rfl⟩
      · have hc' : (c != 0) = true := by rw [bne, beq_eq_false_iff_ne.2 hc]; rfl
        go_enter Tryd.func24, Tryd.ntmps24
        go_wp2
        go_ret
        exact ⟨retB2 (by rw [HL.out]; simp [hc]), rfl⟩
    · have hb' : (b == 0) = false := beq_eq_false_iff_ne.2 hb
      go_enter Tryd.func24, Tryd.ntmps24
      go_wp2
      go_ret
      exact ⟨retB2 (by rw [HL.out]; simp [ha, hb]), rfl⟩

def monthsL : List Int := [31, 28, 31, 30, 31, 30, 31, 31, 30, 31, 30, 31]
theorem months_at {y : Int} (m : Nat) (h1 : m < 12) (h2 : (m : Int) + 1 ≠ 2 ∨ Cal.leapI y = false) : monthsL.getD m 0 = (Cal.daysI y ((m : Int) + 1) : Nat) := by
  match m, h1 with
  | 0, _ => rfl
  | 1, _ =>
    rcases h2 with h | h
    · exact absurd rfl h
    · simp [Cal.daysI, h, monthsL]
  | 2, _ => rfl
  | 3, _ => rfl
  | 4, _ => rfl
  | 5, _ => rfl
  | 6, _ => rfl
  | 7, _ => rfl
  | 8, _ => rfl
  | 9, _ => rfl
  | 10, _ => rfl
  | 11, _ => rfl

set_option maxRecDepth 100000 in
set_option maxHeartbeats 1000000 in
theorem refDays_any (y m : Int) (w : World) : Calls Tryd.prog 22 #[.int .i64 y, .int .i64 m] w fun e w' => e = .returned (.int .i64 ((Cal.daysI y m : Nat) : Int)) ∧ w.grownBy w' none := by
  have HL := Lib.hid (refLeap_any y)
  by_cases h1 : m < 1
  · have HR : Hid (Cal.daysI y m = 0) := Lib.hid (by rw [Cal.daysI, if_pos (.inl h1)])
    rw [HR.out]
    go_enter Tryd.func22, Tryd.ntmps22
    go_wp2
    go_ret
    exact ⟨rfl, grown_refl _ _⟩
  · by_cases h2 : 12 < m
    · have HR : Hid (Cal.daysI y m = 0) := Lib.hid (by rw [Cal.daysI, if_pos (.inr h2)])
      rw [HR.out]
      go_enter Tryd.func22, Tryd.ntmps22
      go_wp2
      go_ret
      exact ⟨rfl, grown_refl _ _⟩
    · obtain ⟨k, hk⟩ : ∃ k : Nat, m = (k : Int) + 1 := ⟨(m - 1).toNat, by omega⟩
      have hk12 : k < 12 := by omega
      have hcell : (w.alloc (.cells #[.int .i64 31, .int .i64 28, .int .i64 31, .int .i64 30, .int .i64 31, .int .i64 30, .int .i64 31, .int .i64 31, .int .i64 30, .int .i64 31, .int .i64 30, .int .i64 31] 3)).cell? ⟨w.heap.size, k, none⟩ = some (.int .i64 (monthsL.getD k 0)) := by
        have := cell_blk (alloc_at w (.cells (cellsI monthsL).toArray 3)) k (by simpa using cellsI_at monthsL k hk12)
        exact this
      by_cases hm2 : m = 2
      · by_cases hl : Cal.leapI y = true
        · have HR : Hid (Cal.daysI y m = 29) := Lib.hid (by rw [Cal.daysI, if_neg (by omega), if_pos hm2, if_pos hl])
          rw [HR.out]
          rw [hl] at HL
          clear HR hk hl
          subst hm2
          go_enter Tryd.func22, Tryd.ntmps22
          go_wp2_with (go_at_call 24; refine (HL.out _).mono ?_; rintro e w1 ⟨rfl, rfl⟩)
          go_ret
          exact ⟨rfl, World.grownBy_alloc _ _ _⟩
        · have hlf : Cal.leapI y = false := by rw [← Bool.not_eq_true]; exact hl
          have HLf : Hid (∀ W, Calls Tryd.prog 24 #[.int .i64 y] W fun e w' => e = .returned (.bool false) ∧ w' = W) := Lib.hid (fun W => by have := HL.out W; rw [hlf] at this; exact this)
          have HR : Hid (Cal.daysI y m = 28) := Lib.hid (by rw [Cal.daysI, if_neg (by omega), if_pos hm2, if_neg hl])
          rw [HR.out]
          clear hk hl hlf HL HR hcell hk12
          subst hm2
          go_enter Tryd.func22, Tryd.ntmps22
          go_wp2_with (go_at_call 24; refine (HLf.out _).mono ?_; rintro e w1 ⟨rfl, rfl⟩)
          go_ret
          exact ⟨rfl, World.grownBy_alloc _ _ _⟩
      · have hM := months_at (y := y) k hk12 (.inl (by omega))
        rw [hM, ← hk] at hcell
        generalize Cal.daysI y m = R at *
        subst hk
        have hb : ((k : Int) + 1 == 2) = false := beq_eq_false_iff_ne.2 hm2
        clear hM hm2
        go_enter Tryd.func22, Tryd.ntmps22
        go_wp2_with (go_at_call 24; refine (HL.out _).mono ?_; rintro e w1 ⟨rfl, rfl⟩)
        go_ret
        exact ⟨rfl, World.grownBy_alloc _ _ _⟩

set_option maxRecDepth 100000 in
set_option maxHeartbeats 1000000 in
theorem refBefore_any (k : Nat) (hk : k ≤ 8030) (w : World) : Calls Tryd.prog 34 #[.int .i64 ((1970 + k : Nat) : Int)] w fun e w' => e = .returned (.int .i64 ((Cal.bef k : Nat) : Int)) ∧ w' = w := by
  have HL := Lib.hid (fun (j : Nat) W => by
    have := refLeap_any ((1970 + j : Nat) : Int) W
    rw [Cal.leapI_nat] at this
    exact this)
  have HB : Hid (∀ j, Cal.bef (j + 1) = Cal.bef j + 365 + (if Cal.leap (1970 + j) = true then 1 else 0)) := Lib.hid (fun j => by
    rw [Cal.bef, Cal.yearLen]
    split <;> omega)
  have HU : Hid (∀ j, Cal.bef j ≤ 366 * j) := Lib.hid (fun j => by
    have := Cal.bef_closed j
    omega)
  obtain ⟨z, hz⟩ : ∃ z : Int, z = ((1970 + k : Nat) : Int) := ⟨_, rfl⟩
  rw [← hz]
  go_enter Tryd.func34, Tryd.ntmps34
  go_wp2
  go_loopw [3, 4] (fun n i wr => ∃ j : Nat, j ≤ k ∧ i = .int .i64 ((1970 + j : Nat) : Int) ∧ n = .int .i64 ((Cal.bef j : Nat) : Int) ∧ wr = w) (fun _ i _ => 10000 - (intOf i).toNat)
  case atStart => exact ⟨0, by omega, rfl, rfl, rfl⟩
  case round =>
    obtain ⟨j, hj, rfl, rfl, rfl⟩ := hrel
    have hU := HU.out j
    have hBs := Lib.hid (HB.out j)
    have HLj := Lib.hid (HL.out j)
    obtain ⟨y, hy⟩ : ∃ y : Int, y = ((1970 + j : Nat) : Int) := ⟨_, rfl⟩
    rw [← hy] at HLj ⊢
    have HY := Lib.hid hy
    generalize hb : Cal.bef j = b at *
    have HBj := Lib.hid hb
    by_cases hjk : j < k
    · have hlt : y < z := by omega
      have hy10 : y < 10000 := by omega
      have hy0 : 0 ≤ y := by omega
      have hb2 : b ≤ 2938980 := by omega
      cases hl : Cal.leap (1970 + j) with
      | true =>
        rw [hl] at HLj hBs
        have HE : Hid (Cal.bef (j + 1) = b + 366) := Lib.hid (by rw [hBs.out, if_pos rfl])
        clear hz hy hb hl hBs hU
        go_wp2_with (go_at_call 24; refine (HLj.out _).mono ?_; rintro e w1 ⟨rfl, hw⟩; have hw2 := hw.symm; subst hw2; clear hw)
        go_roundw
        case rel => exact ⟨j + 1, by omega, by have := HY.out; go_num, by rw [HE.out]; go_num, trivial⟩
        case measure => simp [intOf]; omega
      | false =>
        rw [hl] at HLj hBs
        have HE : Hid (Cal.bef (j + 1) = b + 365) := Lib.hid (by rw [hBs.out, if_neg (by decide)])
        clear hz hy hb hl hBs hU
        go_wp2_with (go_at_call 24; refine (HLj.out _).mono ?_; rintro e w1 ⟨rfl, hw⟩; have hw2 := hw.symm; subst hw2; clear hw)
        go_roundw
        case rel => exact ⟨j + 1, by omega, by have := HY.out; go_num, by rw [HE.out]; go_num, trivial⟩
        case measure => simp [intOf]; omega
    · obtain rfl : j = k := by omega
      have hlt : ¬ y < z := by omega
      clear hz hy hb hU
      go_wp2
      go_ret
      exact ⟨by rw [HBj.out]; rfl, rfl⟩
end Go.Proofs.YtndjhhebmbmppaaDoor
