/- The walks of the document's Right and Seconds of dates. -/
import Derived.Test.YtndjhhebmbmppaaDoorMr1
import Derived.Test.YtndjhhebmbmppaaDoorRe1
import Derived.Test.YtndjhhebmbmppaaDoorQTail
namespace Go.Proofs.YtndjhhebmbmppaaDoor
open Go.RowKit

/-- A date's six ints, as a struct. -/
abbrev dV (d : Cal.DI) : Value := .agg #[.int .i64 d.Y, .int .i64 d.M, .int .i64 d.D, .int .i64 d.h, .int .i64 d.mi, .int .i64 d.s]
def dCells (d : Cal.DI) : List Int := [d.Y, d.M, d.D, d.h, d.mi, d.s]
theorem dCell {w W : World} {b : Nat} {t : TypeId} {fr : Nat × Nat} {d : Cal.DI} (h : w.heap[b]? = some (.cells #[.int .i64 d.Y, .int .i64 d.M, .int .i64 d.D, .int .i64 d.h, .int .i64 d.mi, .int .i64 d.s] t fr)) (hg : w.grownBy W none) :
    ∀ k z, (dCells d)[k]? = some z → W.cell? ⟨b, k, none⟩ = some (.int .i64 z) := fun k z hz => by
  have h2 : W.heap[b]? = _ := (hg.block b (blk_lt h) (by simp)).trans h
  refine cell_blk h2 k ?_
  match k, hz with
  | 0, hz => obtain rfl := Option.some.inj hz; rfl
  | 1, hz => obtain rfl := Option.some.inj hz; rfl
  | 2, hz => obtain rfl := Option.some.inj hz; rfl
  | 3, hz => obtain rfl := Option.some.inj hz; rfl
  | 4, hz => obtain rfl := Option.some.inj hz; rfl
  | 5, hz => obtain rfl := Option.some.inj hz; rfl
  | n + 6, hz => cases hz

set_option maxRecDepth 100000 in
set_option maxHeartbeats 1000000 in
theorem refRight_any (d : Cal.DI) (w : World) : Calls Tryd.prog 16 #[dV d] w fun e w' => e = .returned (.bool (Cal.rightI d)) ∧ w.grownBy w' none := by
  have HD := Lib.hid (fun W => refDays_any d.Y d.M W)
  obtain ⟨Y, M, D, h, mi, s⟩ := d
  have HR : Hid (Cal.rightI ⟨Y, M, D, h, mi, s⟩ = (decide (1970 ≤ Y) && decide (Y ≤ 9999) && decide (1 ≤ M) && decide (M ≤ 12) && decide (1 ≤ D) && decide (D ≤ (Cal.daysI Y M : Nat)) && decide (0 ≤ h) && decide (h ≤ 23) && decide (0 ≤ mi) && decide (mi ≤ 59) && decide (0 ≤ s) && decide (s ≤ 59))) := Lib.hid rfl
  have HC := Lib.hid (fun W hg => dCell (W := W) (d := ⟨Y, M, D, h, mi, s⟩) (alloc_at w (.cells #[.int .i64 Y, .int .i64 M, .int .i64 D, .int .i64 h, .int .i64 mi, .int .i64 s] 34)) hg)
  generalize Cal.daysI Y M = dd at *
  go_enter Tryd.func16, Tryd.ntmps16
  go_wp2
  refine rt_region _ w.heap.size Y M D h mi s dd _ _ _ _ _ _ _ _ _ _ _ _ (w.alloc (.cells #[.int .i64 Y, .int .i64 M, .int .i64 D, .int .i64 h, .int .i64 mi, .int .i64 s] 34)) _ _ rfl rfl (fun W hW => HC.out W hW) (fun W _ => HD.out W) rfl rfl rfl rfl rfl rfl rfl rfl rfl rfl rfl rfl ⟨rfl, rfl, rfl, Nat.le_refl _, fun _ _ _ => rfl⟩ (fun us w3 hg3 => ?_)
  simp only [fill_cons, fill_nil, Act.put, List.setIfInBounds_toArray, List.set_cons_succ, List.set_cons_zero]
  have HG := Lib.hid (grown_trans (World.grownBy_alloc w (.cells #[.int .i64 Y, .int .i64 M, .int .i64 D, .int .i64 h, .int .i64 mi, .int .i64 s] 34) none) hg3)
  rw [← HR.out]
  clear hg3
  go_wp2
  go_ret
  exact ⟨rfl, HG.out⟩

theorem ms_le (y m : Nat) : Cal.ms y m ≤ 31 * m := by
  induction m with
  | zero => exact Nat.le_refl _
  | succ m ih =>
    rw [Cal.ms]
    have : Cal.days y (m + 1) ≤ 31 := by rw [← Cal.daysI_nat]; exact Cal.daysI_le _ _
    omega
set_option maxRecDepth 100000 in
set_option maxHeartbeats 1000000 in
theorem refSeconds_any (d : Cal.Date) (hd : Cal.Right d) (w : World) : Calls Tryd.prog 17 #[dV d.toI] w fun e w' => e = .returned (.int .i64 ((Cal.sec d : Nat) : Int)) ∧ w.grownBy w' none := by
  obtain ⟨Y, M, D, h, mi, s⟩ := d
  obtain ⟨⟨y1, y2⟩, ⟨m1, m2⟩, ⟨d1, d2⟩, h1, mi1, s1⟩ := hd
  simp only at y1 y2 m1 m2 d1 d2 h1 mi1 s1
  have hd31 := (Cal.days_pos (y := Y) m1 m2).2
  obtain ⟨k, hk⟩ : ∃ k, Y = 1970 + k := ⟨Y - 1970, by omega⟩
  have HBe := Lib.hid (fun W => refBefore_any k (by omega) W)
  have HDa := Lib.hid (fun (j : Nat) W => by
    have := refDays_any ((Y : Nat) : Int) ((j : Nat) : Int) W
    rw [Cal.daysI_nat] at this
    exact this)
  have HU : Hid (Cal.bef k ≤ 2938980) := Lib.hid (by have := Cal.bef_closed k; omega)
  have HMs : Hid (∀ j, Cal.ms Y (j + 1) = Cal.ms Y j + Cal.days Y (j + 1)) := Lib.hid (fun j => rfl)
  have HMl := Lib.hid (ms_le Y)
  have HDl : Hid (∀ j, Cal.days Y j ≤ 31) := Lib.hid (fun j => by rw [← Cal.daysI_nat]; exact Cal.daysI_le _ _)
  have HE : Hid (Cal.sec ⟨Y, M, D, h, mi, s⟩ = (((Cal.bef k + (D - 1) + Cal.ms Y (M - 1)) * 24 + h) * 60 + mi) * 60 + s) := Lib.hid (by
    unfold Cal.sec Cal.dayOf Cal.clock
    simp only
    rw [show Y - 1970 = k by omega]
    omega)
  have HC := Lib.hid (fun W hg => dCell (W := W) (d := ⟨(Y : Int), (M : Int), (D : Int), (h : Int), (mi : Int), (s : Int)⟩) (alloc_at w (.cells #[.int .i64 (Y : Int), .int .i64 (M : Int), .int .i64 (D : Int), .int .i64 (h : Int), .int .i64 (mi : Int), .int .i64 (s : Int)] 34)) hg)
  obtain ⟨W1, hW1⟩ : ∃ W1, W1 = w.alloc (.cells #[.int .i64 (Y : Int), .int .i64 (M : Int), .int .i64 (D : Int), .int .i64 (h : Int), .int .i64 (mi : Int), .int .i64 (s : Int)] 34) := ⟨_, rfl⟩
  have HG1 : Hid (w.grownBy W1 none) := Lib.hid (by rw [hW1]; exact World.grownBy_alloc _ _ _)
  rw [← hW1] at HC
  have HW1 := Lib.hid hW1
  have c0 : W1.cell? ⟨w.heap.size, 0, none⟩ = some (.int .i64 (Y : Int)) := HC.out W1 (grown_refl _ _) 0 _ rfl
  have c2 : W1.cell? ⟨w.heap.size, 2, none⟩ = some (.int .i64 (D : Int)) := HC.out W1 (grown_refl _ _) 2 _ rfl
  simp only [Cal.Date.toI]
  generalize Cal.sec ⟨Y, M, D, h, mi, s⟩ = SEC at *
  generalize Cal.bef k = b0 at *
  have HYk := Lib.hid hk
  clear y1 hk hW1
  go_enter Tryd.func17, Tryd.ntmps17
  go_wp2
  rw [← HW1.out]
  have hb := HU.out
  refine wp_region_quiet_tail (fun w' => ∃ n, w' = W1.drewN n) 7 (by kernel_rfl) (by kernel_rfl) ⟨1, rfl⟩ ?_
  simp only [List.take_succ_cons, List.take_zero, List.drop_succ_cons, List.drop_zero]
  iterate 2 (go_big_quiet_step (fail))
  refine wpQuiet_call (by rfl) 34 #[.int .i64 ((Y : Nat) : Int)] (.int .i64 (b0 : Int)) (fun _ => by simp [go_sem]) (fun w' hw' => by rw [HYk.out]; exact (HBe.out w').mono (fun e w'' h => ⟨h.1, by rw [h.2]; exact hw'⟩)) ?_
  simp only [Act.put, List.setIfInBounds_toArray, List.set_cons_succ, List.set_cons_zero]
  repeat (go_big_quiet_step (fail))
  refine wpQuiet_nil ?_
  rintro _ ⟨n3, rfl⟩
  obtain ⟨W2, hW2⟩ : ∃ W2, W2 = W1.drewN n3 := ⟨_, rfl⟩
  have HG2 : Hid (W1.grownBy W2 none) := Lib.hid (by rw [hW2]; exact grown_drewN (grown_refl _ _) _)
  rw [← hW2]
  clear hW2 c0 c2
  go_wp2
  go_loopw [3, 4] (fun n i wr => ∃ j : Nat, j < M ∧ i = .int .i64 ((j + 1 : Nat) : Int) ∧ n = .int .i64 ((b0 + (D - 1) + Cal.ms Y j : Nat) : Int) ∧ W1.grownBy wr none) (fun _ i _ => 100 - (intOf i).toNat)
  case atStart => exact ⟨0, by omega, rfl, by simp only [Cal.ms]; congr 1; omega, HG2.out⟩
  case round =>
    obtain ⟨j, hj, rfl, rfl, hg⟩ := hrel
    have HG := Lib.hid hg
    have q0 : wr.cell? ⟨w.heap.size, 0, none⟩ = some (.int .i64 (Y : Int)) := HC.out wr hg 0 _ rfl
    have q1 : wr.cell? ⟨w.heap.size, 1, none⟩ = some (.int .i64 (M : Int)) := HC.out wr hg 1 _ rfl
    have q3 : wr.cell? ⟨w.heap.size, 3, none⟩ = some (.int .i64 (h : Int)) := HC.out wr hg 3 _ rfl
    have q4 : wr.cell? ⟨w.heap.size, 4, none⟩ = some (.int .i64 (mi : Int)) := HC.out wr hg 4 _ rfl
    have q5 : wr.cell? ⟨w.heap.size, 5, none⟩ = some (.int .i64 (s : Int)) := HC.out wr hg 5 _ rfl
    have hml := HMl.out j
    have hms := HMs.out j
    have hdl := HDl.out (j + 1)
    clear hg
    obtain ⟨i, hi⟩ : ∃ i, i = j + 1 := ⟨_, rfl⟩
    rw [← hi] at hdl hms ⊢
    have HI := Lib.hid hi
    have HDi := Lib.hid (HDa.out i)
    generalize Cal.days Y i = dy at *
    obtain ⟨a, ha⟩ : ∃ a, a = b0 + (D - 1) + Cal.ms Y j := ⟨_, rfl⟩
    have hal : a ≤ 3000000 := by omega
    have HA := Lib.hid ha
    have HMs2 := Lib.hid hms
    rw [← ha]
    clear hi ha hms hml
    by_cases hjM : i < M
    · clear q3 q4 q5
      go_wp2_with (go_at_call 22; refine (HDi.out _).mono ?_; rintro e w4 ⟨rfl, hg4⟩; have HG4 := Lib.hid (grown_trans HG.out hg4); clear hg4)
      go_roundw
      case rel => exact ⟨i, by omega, by go_num, by rw [HMs2.out, ← Nat.add_assoc, ← HA.out]; go_num, HG4.out⟩
      case measure => simp [intOf]; omega
    · have hMj : j = M - 1 := by have := HI.out; omega
      have HE2 : Hid (SEC = ((a * 24 + h) * 60 + mi) * 60 + s) := Lib.hid (by rw [HE.out, HA.out, hMj])
      clear q0 hMj
      go_wp2
      go_ret
      exact ⟨retI2 (by rw [HE2.out]; omega), grown_trans HG1.out HG.out⟩
end Go.Proofs.YtndjhhebmbmppaaDoor
