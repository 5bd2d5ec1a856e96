/- Package moments: within, isMoment, Leap, Days. Package moments: leapsAhead, daysAhead, dateOfDay, dayOfDate. Package moments: dayOfDate, dateOfDay. -/
import Derived.Test.YtndjhhebmbmppaaDoorMo8
namespace Go.Proofs.YtndjhhebmbmppaaDoor
open Go.RowKit
set_option linter.unusedVariables false

/-- Do all lie from lo to hi? -/
def inB (lo hi : Int) (l : List Int) : Bool := l.all fun x => decide (lo ≤ x) && decide (x ≤ hi)
theorem inB_false {lo hi : Int} {l : List Int} (k : Nat) (hk : k < l.length) (h : l.getD k 0 < lo ∨ hi < l.getD k 0) : inB lo hi l = false := by
  unfold inB
  rw [List.all_eq_false]
  refine ⟨l.getD k 0, ?_, ?_⟩
  · rw [List.getD_eq_getElem?_getD, List.getElem?_eq_getElem hk]; exact List.getElem_mem hk
  · simp only [Bool.and_eq_true, decide_eq_true_eq]; omega
theorem inB_true {lo hi : Int} {l : List Int} (h : ∀ j, j < l.length → lo ≤ l.getD j 0 ∧ l.getD j 0 ≤ hi) : inB lo hi l = true := by
  unfold inB
  rw [List.all_eq_true]
  intro x hx
  obtain ⟨j, hj, rfl⟩ := List.getElem_of_mem hx
  have := h j hj
  rw [List.getD_eq_getElem?_getD, List.getElem?_eq_getElem hj] at this
  simpa using this
theorem inB_one (lo hi x : Int) : inB lo hi [x] = (decide (lo ≤ x) && decide (x ≤ hi)) := by simp [inB]
theorem inB_two (lo hi x y : Int) : inB lo hi [x, y] = ((decide (lo ≤ x) && decide (x ≤ hi)) && (decide (lo ≤ y) && decide (y ≤ hi))) := by simp [inB]

set_option maxRecDepth 100000 in
set_option maxHeartbeats 1000000 in
theorem within_any (lo hi : Int) (v : Value) (l : List Int) (w : World) (h : Ints w v l) (hl : l.length ≤ 1000000) :
    Calls Tryd.prog 35 #[.int .i64 lo, .int .i64 hi, v] w fun e w' => e = .returned (.bool (inB lo hi l)) ∧ w' = w := by
  obtain ⟨a1, g1, o1, c1, rfl, k1, k2, k3⟩ := h
  have K2 := Lib.hid k2
  have K3 := Lib.hid k3
  have HT : Hid ((∀ j, j < l.length → lo ≤ l.getD j 0 ∧ l.getD j 0 ≤ hi) → inB lo hi l = true) := Lib.hid inB_true
  have HF : Hid (∀ k, k < l.length → l.getD k 0 < lo ∨ hi < l.getD k 0 → inB lo hi l = false) := Lib.hid (fun k => inB_false k)
  clear k2 k3
  generalize inB lo hi l = D at *
  obtain ⟨n, hn⟩ : ∃ n, n = l.length := ⟨_, rfl⟩
  rw [← hn] at K2 K3 hl k1 HT HF ⊢
  clear hn
  go_enter Tryd.func35, Tryd.ntmps35
  go_wp2
  go_loopw [11] (fun i wr => ∃ k : Nat, k ≤ n ∧ i = .int .i64 k ∧ wr = w ∧ ∀ j, j < k → lo ≤ l.getD j 0 ∧ l.getD j 0 ≤ hi) (fun i _ => n - (intOf i).toNat)
  case atStart => exact ⟨0, Nat.zero_le _, rfl, rfl, fun j hj => absurd hj (Nat.not_lt_zero _)⟩
  case round =>
    obtain ⟨k, hk, rfl, rfl, hall⟩ := hrel
    have HAll := Lib.hid hall
    clear hall
    by_cases hlt : k < n
    · obtain ⟨rfl, _⟩ := K2.out (by omega)
      have f1 := K3.out k hlt
      have HFk := Lib.hid (HF.out k hlt)
      generalize hx : l.getD k 0 = x at *
      have HX := Lib.hid hx
      clear hx
      by_cases h1 : x < lo
      · have hD := Lib.hid (HFk.out (.inl h1))
        go_wp2
        go_ret
        exact ⟨retB2 hD.out.symm, rfl⟩
      · by_cases h2 : hi < x
        · have hD := Lib.hid (HFk.out (.inr h2))
          go_wp2
          go_ret
          exact ⟨retB2 hD.out.symm, rfl⟩
        · go_wp2
          go_roundw
          case rel => exact ⟨k + 1, by omega, by go_num, trivial, fun j hj => (by
            rcases Nat.lt_or_ge j k with h | h
            · exact HAll.out j h
            · obtain rfl : j = k := by omega
              rw [HX.out]; omega)⟩
          case measure => simp [intOf]; omega
    · obtain rfl : k = n := by omega
      have hD := Lib.hid (HT.out HAll.out)
      go_wp2
      go_ret
      exact ⟨retB2 hD.out.symm, rfl⟩

set_option maxRecDepth 100000 in
theorem isMoment_any (v : Value) (l : List Int) (w : World) (h : Ints w v l) (hl : l.length ≤ 1000000) :
    Calls Tryd.prog 26 #[v] w fun e w' => e = .returned (.bool (inB 0 253402300799 l)) ∧ w' = w := by
  have HW := Lib.hid (within_any 0 253402300799 v l w h hl)
  clear h hl
  generalize inB 0 253402300799 l = D at *
  go_enter Tryd.func26, Tryd.ntmps26
  go_wp2_with (go_at_call 35; refine HW.out.mono ?_; rintro e w1 ⟨rfl, rfl⟩)
  go_ret
  exact ⟨rfl, rfl⟩

/-- One int, two ints, in a slice of the call's own. -/
theorem ints1 (w : World) (x : Int) : Ints (w.alloc (.cells #[.int .i64 x] 3)) (.slice (some ⟨w.heap.size, 0, none⟩) 1 1) [x] :=
  Ints.lit (l := [x]) (alloc_at w (.cells #[.int .i64 x] 3))
theorem ints2 (w : World) (x y : Int) : Ints (w.alloc (.cells #[.int .i64 x, .int .i64 y] 3)) (.slice (some ⟨w.heap.size, 0, none⟩) 2 2) [x, y] :=
  Ints.lit (l := [x, y]) (alloc_at w (.cells #[.int .i64 x, .int .i64 y] 3))

set_option maxRecDepth 100000 in
theorem mLeap_any (y : Int) (w : World) : Calls Tryd.prog 23 #[.int .i64 y] w fun e w' => e = .returned (.bool (Cal.leapI y)) ∧ w' = w := by
  have HL : Hid (Cal.leapI y = (decide (y.tmod 400 = 0) || (decide (y.tmod 4 = 0) && decide (y.tmod 100 ≠ 0)))) := Lib.hid (by
    unfold Cal.leapI
    have e1 := Cal.tmod_zero y 400 (by decide)
    have e2 := Cal.tmod_zero y 4 (by decide)
    have e3 := Cal.tmod_zero y 100 (by decide)
    simp only [← e1, ← e2, ne_eq, ← e3])
  generalize Cal.leapI y = R at *
  generalize h1 : y.tmod 400 = a at *
  generalize h2 : y.tmod 4 = b at *
  generalize h3 : y.tmod 100 = c at *
  by_cases hb : b = 0
  · subst hb
    by_cases hc : c = 0
    · subst hc
      by_cases ha : a = 0
      · subst ha
        go_enter Tryd.func23, Tryd.ntmps23
        go_wp2
        go_ret
        exact ⟨retB2 (by rw [HL.out]; simp), rfl⟩
      · have ha' : (a == 0) = false := beq_eq_false_iff_ne.2 ha
        go_enter Tryd.func23, Tryd.ntmps23
        go_wp2
        go_ret
        exact ⟨retB2 (by rw [HL.out]; simp [ha]), rfl⟩
    · have hc' : (c != 0) = true := by rw [bne, beq_eq_false_iff_ne.2 hc]; rfl
      go_enter Tryd.func23, Tryd.ntmps23
      go_wp2
      go_ret
      exact ⟨retB2 (by rw [HL.out]; simp [hc]), rfl⟩
  · have hb' : (b == 0) = false := beq_eq_false_iff_ne.2 hb
    by_cases ha : a = 0
    · subst ha
      go_enter Tryd.func23, Tryd.ntmps23
      go_wp2
      go_ret
      exact ⟨retB2 (by rw [HL.out]; simp), rfl⟩
    · have ha' : (a == 0) = false := beq_eq_false_iff_ne.2 ha
      go_enter Tryd.func23, Tryd.ntmps23
      go_wp2
      go_ret
      exact ⟨retB2 (by rw [HL.out]; simp [ha, hb]), rfl⟩

/-- The variable that holds how long months are. -/
structure Lens (w : World) : Prop where
  at_ : ∀ k, k < 12 → w.cell? ⟨28, k, none⟩ = some (.int .i64 (monthsL.getD k 0))
theorem Lens.grown {w w' : World} (h : Lens w) (hg : w.grownBy w' none) : Lens w' :=
  ⟨fun k hk => (World.cell?_of_block (hg.block _ (World.block_lt_of_cell? w _ (h.at_ k hk)) (by simp))).trans (h.at_ k hk)⟩

set_option maxRecDepth 100000 in
set_option maxHeartbeats 1000000 in
theorem mDays_any (y m : Int) (w : World) (hLn : Lens w) : Calls Tryd.prog 21 #[.int .i64 y, .int .i64 m] w fun e w' => e = .returned (.int .i64 ((Cal.daysI y m : Nat) : Int)) ∧ w.grownBy w' none := by
  have HL := Lib.hid (mLeap_any y)
  have HWi := Lib.hid (within_any 1 12 _ [m] _ (ints1 w m) (by simp))
  rw [inB_one] at HWi
  have HG : Hid (w.grownBy (w.alloc (.cells #[.int .i64 m] 3)) none) := Lib.hid (World.grownBy_alloc _ _ _)
  have HLn := Lib.hid (hLn.grown HG.out)
  clear hLn
  obtain ⟨w1, hw1⟩ : ∃ w1, w1 = w.alloc (.cells #[.int .i64 m] 3) := ⟨_, rfl⟩
  have HW1 := Lib.hid hw1
  by_cases h1 : 1 ≤ m ∧ m ≤ 12
  · obtain ⟨h1, h2⟩ := h1
    rw [decide_eq_true h1, decide_eq_true h2] at HWi
    obtain ⟨k, hk⟩ : ∃ k : Nat, m = (k : Int) + 1 := ⟨(m - 1).toNat, by omega⟩
    have hk12 : k < 12 := by omega
    have hcell := HLn.out.at_ k hk12
    by_cases hm2 : m = 2
    · by_cases hl : Cal.leapI y = true
      · have HR : Hid (Cal.daysI y m = 29) := Lib.hid (by rw [Cal.daysI, if_neg (by omega), if_pos hm2, if_pos hl])
        rw [HR.out]
        rw [hl] at HL
        clear HR hk hl hcell
        subst hm2
        go_enter Tryd.func21, Tryd.ntmps21
        go_wp2_with (first
          | (go_at_call 35; refine HWi.out.mono ?_; rintro e w2 ⟨rfl, rfl⟩)
          | (go_at_call 23; refine (HL.out _).mono ?_; rintro e w2 ⟨rfl, rfl⟩))
        go_ret
        exact ⟨rfl, HG.out⟩
      · have hlf : Cal.leapI y = false := by rw [← Bool.not_eq_true]; exact hl
        have HR : Hid (Cal.daysI y m = 28) := Lib.hid (by rw [Cal.daysI, if_neg (by omega), if_pos hm2, if_neg hl])
        rw [HR.out]
        rw [hlf] at HL
        obtain rfl : k = 1 := by omega
        clear HR hk hl hlf
        subst hm2
        go_enter Tryd.func21, Tryd.ntmps21
        go_wp2_with (first
          | (go_at_call 35; refine HWi.out.mono ?_; rintro e w2 ⟨rfl, rfl⟩)
          | (go_at_call 23; refine (HL.out _).mono ?_; rintro e w2 ⟨rfl, rfl⟩))
        go_ret
        exact ⟨rfl, HG.out⟩
    · have hM := months_at (y := y) k hk12 (.inl (by omega))
      rw [hM, ← hk] at hcell
      generalize Cal.daysI y m = R at *
      subst hk
      have hb : ((k : Int) + 1 == 2) = false := beq_eq_false_iff_ne.2 hm2
      clear hM hm2
      go_enter Tryd.func21, Tryd.ntmps21
      go_wp2_with (first
        | (go_at_call 35; refine HWi.out.mono ?_; rintro e w2 ⟨rfl, rfl⟩)
        | (go_at_call 23; refine (HL.out _).mono ?_; rintro e w2 ⟨rfl, rfl⟩))
      go_ret
      exact ⟨rfl, HG.out⟩
  · have hf : (decide (1 ≤ m) && decide (m ≤ 12)) = false := by
      rw [Bool.and_eq_false_iff, decide_eq_false_iff_not, decide_eq_false_iff_not]; omega
    rw [hf] at HWi
    have HR : Hid (Cal.daysI y m = 0) := Lib.hid (by rw [Cal.daysI, if_pos (by omega)])
    rw [HR.out]
    go_enter Tryd.func21, Tryd.ntmps21
    go_wp2_with (first
      | (go_at_call 35; refine HWi.out.mono ?_; rintro e w2 ⟨rfl, rfl⟩)
      | (go_at_call 23; refine (HL.out _).mono ?_; rintro e w2 ⟨rfl, rfl⟩))
    go_ret
    exact ⟨rfl, HG.out⟩
end Go.Proofs.YtndjhhebmbmppaaDoor
namespace Go.Proofs.YtndjhhebmbmppaaDoor
open Go.RowKit
set_option linter.unusedVariables false

set_option maxRecDepth 100000 in
theorem leapsAhead_any (k : Nat) (hk : k ≤ 100000) (w : World) : Calls Tryd.prog 39 #[.int .i64 ((1970 + k : Nat) : Int)] w fun e w' => e = .returned (.int .i64 (((1969 + k) / 4 + (1969 + k) / 400 - (1969 + k) / 100 : Nat) : Int)) ∧ w' = w := by
  obtain ⟨y, hy⟩ : ∃ y : Int, y = ((1970 + k : Nat) : Int) := ⟨_, rfl⟩
  rw [← hy]
  have h1 : 1970 ≤ y := by omega
  have h2 : y ≤ 101970 := by omega
  have HY := Lib.hid hy
  clear hy
  go_enter Tryd.func39, Tryd.ntmps39
  go_wp2
  go_ret
  exact ⟨retI2 (by have := HY.out; omega), rfl⟩

theorem leaps1970 (w : World) : Calls Tryd.prog 39 #[.int .i64 1970] w fun e w' => e = .returned (.int .i64 477) ∧ w' = w := by
  have e1 : (1970 : Int) = ((1970 + 0 : Nat) : Int) := by omega
  have e2 : (((1969 + 0) / 4 + (1969 + 0) / 400 - (1969 + 0) / 100 : Nat) : Int) = 477 := by omega
  rw [e1, ← e2]
  exact leapsAhead_any 0 (by omega) w
set_option maxRecDepth 100000 in
theorem daysAhead_any (k : Nat) (hk : k ≤ 100000) (w : World) : Calls Tryd.prog 36 #[.int .i64 ((1970 + k : Nat) : Int)] w fun e w' => e = .returned (.int .i64 ((Cal.bef k : Nat) : Int)) ∧ w' = w := by
  have HA := Lib.hid (fun W => leapsAhead_any k hk W)
  have HB := Lib.hid leaps1970
  have HE := Lib.hid (Cal.bef_closed k)
  obtain ⟨y, hy⟩ : ∃ y : Int, y = ((1970 + k : Nat) : Int) := ⟨_, rfl⟩
  obtain ⟨q, hq⟩ : ∃ q : Nat, q = (1969 + k) / 4 + (1969 + k) / 400 - (1969 + k) / 100 := ⟨_, rfl⟩
  rw [← hy, ← hq] at HA
  rw [← hy]
  have h1 : 1970 ≤ y := by omega
  have h2 : y ≤ 101970 := by omega
  have h3 : q ≤ 200000 := by omega
  have HY := Lib.hid hy
  have HQ := Lib.hid hq
  clear hy hq
  go_enter Tryd.func36, Tryd.ntmps36
  go_wp2_with (first
    | (go_at_call 39; with_reducible refine (HA.out _).mono ?_; rintro e w2 ⟨rfl, rfl⟩)
    | (go_at_call 39; with_reducible refine (HB.out _).mono ?_; rintro e w2 ⟨rfl, rfl⟩))
  go_ret
  exact ⟨retI2 (by have := HY.out; have := HQ.out; have := HE.out; omega), rfl⟩
end Go.Proofs.YtndjhhebmbmppaaDoor
namespace Go.Proofs.YtndjhhebmbmppaaDoor
open Go.RowKit
set_option linter.unusedVariables false

set_option maxRecDepth 100000 in
set_option maxHeartbeats 1000000 in
theorem dayOfDate_any (d : Cal.Date) (hd : Cal.Right d) (w : World) (hLn : Lens w) : Calls Tryd.prog 31 #[dV d.toI] w fun e w' => e = .returned (.int .i64 ((Cal.dayOf d : Nat) : Int)) ∧ w.grownBy w' none := by
  obtain ⟨Y, M, D, h, mi, s⟩ := d
  obtain ⟨⟨y1, y2⟩, ⟨m1, m2⟩, ⟨d1, d2⟩, h1, mi1, s1⟩ := hd
  simp only at y1 y2 m1 m2 d1 d2 h1 mi1 s1
  have hd31 := (Cal.days_pos (y := Y) m1 m2).2
  obtain ⟨k, hk⟩ : ∃ k, Y = 1970 + k := ⟨Y - 1970, by omega⟩
  have HBe := Lib.hid (fun W => daysAhead_any k (by omega) W)
  have HDa := Lib.hid (fun (j : Nat) W (hW : w.grownBy W none) => by
    have := mDays_any ((Y : Nat) : Int) ((j : Nat) : Int) W (hLn.grown hW)
    rw [Cal.daysI_nat] at this
    exact this)
  have HU : Hid (Cal.bef k ≤ 2938980) := Lib.hid (by have := Cal.bef_closed k; omega)
  have HMs : Hid (∀ j, Cal.ms Y (j + 1) = Cal.ms Y j + Cal.days Y (j + 1)) := Lib.hid (fun j => rfl)
  have HMl := Lib.hid (ms_le Y)
  have HDl : Hid (∀ j, Cal.days Y j ≤ 31) := Lib.hid (fun j => by rw [← Cal.daysI_nat]; exact Cal.daysI_le _ _)
  have HE : Hid (Cal.dayOf ⟨Y, M, D, h, mi, s⟩ = Cal.bef k + (D - 1) + Cal.ms Y (M - 1)) := Lib.hid (by
    unfold Cal.dayOf
    simp only
    rw [show Y - 1970 = k by omega]
    omega)
  have HC := Lib.hid (fun W hg => dCell (W := W) (d := ⟨(Y : Int), (M : Int), (D : Int), (h : Int), (mi : Int), (s : Int)⟩) (alloc_at w (.cells #[.int .i64 (Y : Int), .int .i64 (M : Int), .int .i64 (D : Int), .int .i64 (h : Int), .int .i64 (mi : Int), .int .i64 (s : Int)] 24)) hg)
  obtain ⟨W1, hW1⟩ : ∃ W1, W1 = w.alloc (.cells #[.int .i64 (Y : Int), .int .i64 (M : Int), .int .i64 (D : Int), .int .i64 (h : Int), .int .i64 (mi : Int), .int .i64 (s : Int)] 24) := ⟨_, rfl⟩
  have HG1 : Hid (w.grownBy W1 none) := Lib.hid (by rw [hW1]; exact World.grownBy_alloc _ _ _)
  rw [← hW1] at HC
  have HW1 := Lib.hid hW1
  have c0 : W1.cell? ⟨w.heap.size, 0, none⟩ = some (.int .i64 (Y : Int)) := HC.out W1 (grown_refl _ _) 0 _ rfl
  have c2 : W1.cell? ⟨w.heap.size, 2, none⟩ = some (.int .i64 (D : Int)) := HC.out W1 (grown_refl _ _) 2 _ rfl
  simp only [Cal.Date.toI]
  generalize Cal.dayOf ⟨Y, M, D, h, mi, s⟩ = SEC at *
  generalize Cal.bef k = b0 at *
  have HYk := Lib.hid hk
  clear y1 hk hW1
  go_enter Tryd.func31, Tryd.ntmps31
  go_wp2
  rw [← HW1.out]
  have hb := HU.out
  refine wp_region_quiet_tail (fun w' => ∃ n, w' = W1.drewN n) 7 (by kernel_rfl) (by kernel_rfl) ⟨1, rfl⟩ ?_
  simp only [List.take_succ_cons, List.take_zero, List.drop_succ_cons, List.drop_zero]
  iterate 2 (go_big_quiet_step (fail))
  refine wpQuiet_call (by rfl) 36 #[.int .i64 ((Y : Nat) : Int)] (.int .i64 (b0 : Int)) (fun _ => by simp [go_sem]) (fun w' hw' => by rw [HYk.out]; exact (HBe.out w').mono (fun e w'' h => ⟨h.1, by rw [h.2]; exact hw'⟩)) ?_
  simp only [Act.put, List.setIfInBounds_toArray, List.set_cons_succ, List.set_cons_zero]
  repeat (go_big_quiet_step (fail))
  refine wpQuiet_nil ?_
  rintro _ ⟨n3, rfl⟩
  obtain ⟨W2, hW2⟩ : ∃ W2, W2 = W1.drewN n3 := ⟨_, rfl⟩
  have HG2 : Hid (W1.grownBy W2 none) := Lib.hid (by rw [hW2]; exact grown_drewN (grown_refl _ _) _)
  rw [← hW2]
  clear hW2 c0 c2
  go_wp2
  go_loopw [3, 4] (fun n i wr => ∃ j : Nat, j < M ∧ i = .int .i64 ((j + 1 : Nat) : Int) ∧ n = .int .i64 ((b0 + (D - 1) + Cal.ms Y j : Nat) : Int) ∧ W1.grownBy wr none) (fun _ i _ => 100 - (intOf i).toNat)
  case atStart => exact ⟨0, by omega, rfl, by simp only [Cal.ms]; congr 1; omega, HG2.out⟩
  case round =>
    obtain ⟨j, hj, rfl, rfl, hg⟩ := hrel
    have HG := Lib.hid hg
    have q0 : wr.cell? ⟨w.heap.size, 0, none⟩ = some (.int .i64 (Y : Int)) := HC.out wr hg 0 _ rfl
    have q1 : wr.cell? ⟨w.heap.size, 1, none⟩ = some (.int .i64 (M : Int)) := HC.out wr hg 1 _ rfl
    have hml := HMl.out j
    have hms := HMs.out j
    have hdl := HDl.out (j + 1)
    clear hg
    obtain ⟨i, hi⟩ : ∃ i, i = j + 1 := ⟨_, rfl⟩
    rw [← hi] at hdl hms ⊢
    have HI := Lib.hid hi
    have HDi := Lib.hid (HDa.out i)
    generalize Cal.days Y i = dy at *
    obtain ⟨a, ha⟩ : ∃ a, a = b0 + (D - 1) + Cal.ms Y j := ⟨_, rfl⟩
    have hal : a ≤ 3000000 := by omega
    have HA := Lib.hid ha
    have HMs2 := Lib.hid hms
    rw [← ha]
    clear hi ha hms hml
    by_cases hjM : i < M
    · go_wp2_with (go_at_call 21; refine (HDi.out _ (grown_trans HG1.out HG.out)).mono ?_; rintro e w4 ⟨rfl, hg4⟩; have HG4 := Lib.hid (grown_trans HG.out hg4); clear hg4)
      go_roundw
      case rel => exact ⟨i, by omega, by go_num, by rw [HMs2.out, ← Nat.add_assoc, ← HA.out]; go_num, HG4.out⟩
      case measure => simp [intOf]; omega
    · have hMj : j = M - 1 := by have := HI.out; omega
      have HE2 : Hid (SEC = a) := Lib.hid (by rw [HE.out, HA.out, hMj])
      clear q0 hMj
      go_wp2
      go_ret
      exact ⟨retI2 (by rw [HE2.out]), grown_trans HG1.out HG.out⟩

set_option maxRecDepth 100000 in
set_option maxHeartbeats 1000000 in
theorem dateOfDay_any (d : Cal.Date) (hd : Cal.Right d) (w : World) (hLn : Lens w) : Calls Tryd.prog 27 #[.int .i64 ((Cal.dayOf d : Nat) : Int)] w fun e w' => e = .returned (dV ⟨(d.Y : Int), (d.M : Int), (d.D : Int), 0, 0, 0⟩) ∧ w.grownBy w' none := by
  have hl := Cal.dayOf_lt hd
  obtain ⟨Y, M, D, h, mi, s⟩ := d
  obtain ⟨⟨y1, y2⟩, ⟨m1, m2⟩, ⟨d1, d2⟩, h1, mi1, s1⟩ := hd
  simp only at y1 y2 m1 m2 d1 d2 h1 mi1 s1 hl
  obtain ⟨l1, l2, l3, l4⟩ := hl
  have hd31 := (Cal.days_pos (y := Y) m1 m2).2
  obtain ⟨k, hk⟩ : ∃ k, Y = 1970 + k := ⟨Y - 1970, by omega⟩
  have e1 : Y - 1970 = k := by omega
  rw [e1] at l1 l2 l3 l4
  have HBe := Lib.hid (fun (j : Nat) (hj : j ≤ 8031) W => daysAhead_any j (by omega) W)
  have HDa := Lib.hid (fun (j : Nat) W (hW : w.grownBy W none) => by
    have := mDays_any ((Y : Nat) : Int) ((j : Nat) : Int) W (hLn.grown hW)
    rw [Cal.daysI_nat] at this
    exact this)
  have hE : Cal.dayOf ⟨Y, M, D, h, mi, s⟩ = Cal.bef k + (D - 1) + Cal.ms Y (M - 1) := by
    unfold Cal.dayOf
    simp only
    rw [show Y - 1970 = k by omega]
    omega
  have hU : ∀ j, Cal.bef j ≤ 366 * j := fun j => by have := Cal.bef_closed j; omega
  have hbk : Cal.bef (k + 1) = Cal.bef k + Cal.yearLen Y := by rw [Cal.bef, hk]
  obtain ⟨n, hn⟩ : ∃ n, n = Cal.dayOf ⟨Y, M, D, h, mi, s⟩ := ⟨_, rfl⟩
  rw [← hn] at l1 l2 l3 l4 hE ⊢
  have hq : n / 366 ≤ k := by have := hU (k + 1); omega
  have hnb : n ≤ 3000000 := by have := hU (k + 1); omega
  have HYear : Hid (∀ i, i ≤ k → (Cal.bef (i + 1) ≤ n ↔ i < k)) := Lib.hid (fun i hi => by
    rcases Nat.lt_or_ge i k with h1 | h1
    · have := Cal.bef_mono (show i < k by omega)
      rw [show Cal.bef (i + 1) = Cal.bef i + Cal.yearLen (1970 + i) from rfl]
      omega
    · obtain rfl : i = k := by omega
      rw [hbk]
      omega)
  have HMonth : Hid (∀ j, j < M → ∀ left, n = Cal.bef k + Cal.ms Y j + left → (Cal.days Y (j + 1) ≤ left ↔ j + 1 < M)) := Lib.hid (fun j hj left hleft => by
    rcases Nat.lt_or_ge (j + 1) M with h1 | h1
    · have : Cal.ms Y (j + 1) ≤ Cal.ms Y (M - 1) := by
        rcases Nat.lt_or_ge (j + 1) (M - 1) with h2 | h2
        · have := Cal.ms_mono Y h2; omega
        · rw [show M - 1 = j + 1 by omega]; exact Nat.le_refl _
      rw [Cal.ms] at this
      omega
    · have hjM : j = M - 1 := by omega
      have hm : Cal.ms Y M = Cal.ms Y j + Cal.days Y (j + 1) := by rw [show M = j + 1 by omega]; rfl
      omega)
  have HBb : Hid (∀ j, j ≤ k + 1 → Cal.bef j ≤ 3000000) := Lib.hid (fun j hj => by have := hU j; omega)
  have HDl : Hid (∀ j, Cal.days Y j ≤ 31) := Lib.hid (fun j => by rw [← Cal.daysI_nat]; exact Cal.daysI_le _ _)
  have HMs : Hid (∀ j, Cal.ms Y (j + 1) = Cal.ms Y j + Cal.days Y (j + 1)) := Lib.hid (fun j => rfl)
  have HE := Lib.hid hE
  have HL1 := Lib.hid l1
  have HYk := Lib.hid hk
  obtain ⟨W1, hW1⟩ : ∃ W1, W1 = w.alloc (.cells #[.int .i64 0, .int .i64 0, .int .i64 0, .int .i64 0, .int .i64 0, .int .i64 0] 24) := ⟨_, rfl⟩
  have HG1 : Hid (w.grownBy W1 none) := Lib.hid (by rw [hW1]; exact World.grownBy_alloc _ _ _)
  have HR1 : Hid (W1.heap[w.heap.size]? = some (.cells #[.int .i64 0, .int .i64 0, .int .i64 0, .int .i64 0, .int .i64 0, .int .i64 0] 24 (0, 0))) := Lib.hid (by rw [hW1]; exact alloc_at w _)
  have HW1 := Lib.hid hW1
  have hq3 : ((n : Int) / 366) = ((n / 366 : Nat) : Int) := by omega
  have HQ3 := Lib.hid hq3
  have HQ := Lib.hid hq
  have hk8 : k ≤ 8030 := by omega
  have HInf : Hid ((Tryd.prog.info? 24).map (·.size) = some 6) := Lib.hid (by kernel_rfl)
  clear hW1 hn hE l1 l2 l3 l4 hU hbk hk e1 hq3 y1 hLn
  go_enter Tryd.func27, Tryd.ntmps27
  go_wp2
  rw [← HW1.out]
  go_loopw [3] (fun y wr => ∃ i : Nat, i ≤ k ∧ y = .int .i64 ((1970 + i : Nat) : Int) ∧ wr = W1) (fun y _ => 20000 - (intOf y).toNat)
  case atStart => exact ⟨n / 366, HQ.out, by rw [HQ3.out]; go_num, rfl⟩
  case round =>
    obtain ⟨i, hi, rfl, rfl⟩ := hrel
    have hbi := HBb.out (i + 1) (by omega)
    have HBi := Lib.hid (fun W => HBe.out (i + 1) (by omega) W)
    have hyi := HYear.out i hi
    obtain ⟨y, hy⟩ : ∃ y : Int, y = ((1970 + i : Nat) : Int) := ⟨_, rfl⟩
    rw [show ((1970 + (i + 1) : Nat) : Int) = y + 1 by omega] at HBi
    rw [← hy]
    generalize Cal.bef (i + 1) = b1 at *
    have hyb : 1970 ≤ y ∧ y ≤ 11000 := by omega
    obtain ⟨hyb1, hyb2⟩ := hyb
    have HY := Lib.hid hy
    clear hy
    by_cases hik : i < k
    · have hc : b1 ≤ n := hyi.2 hik
      clear hyi
      go_wp2_with (go_at_call 36; refine (HBi.out _).mono ?_; rintro e w2 ⟨rfl, hw⟩; have hw2 := hw.symm; subst hw2; clear hw)
      go_roundw
      case rel => exact ⟨i + 1, by omega, by have := HY.out; go_num, trivial⟩
      case measure => simp [intOf]; omega
    · obtain rfl : i = k := by omega
      have hc : ¬ b1 ≤ n := fun h => hik (hyi.1 h)
      have HB0 := Lib.hid (fun W => HBe.out i (by omega) W)
      rw [← HY.out] at HB0
      have hb0 := HL1.out
      obtain ⟨b0, hb⟩ : ∃ b0, b0 = Cal.bef i := ⟨_, rfl⟩
      rw [← hb] at HB0 hb0
      have HB := Lib.hid hb
      clear hyi hb hik
      have HYy : Hid (y = (Y : Int)) := Lib.hid (by rw [HY.out, ← HYk.out])
      have hn0 : n ≤ b0 + 400 := by
        have e1 := HE.out; have e2 := HMs.out; have e3 := ms_le Y (M - 1)
        rw [← HB.out] at e1
        omega
      go_wp2_with (first
        | (go_at_call 36; with_reducible refine (HBi.out _).mono ?_; rintro e w2 ⟨rfl, hw⟩; have hw2 := hw.symm; subst hw2; clear hw)
        | (go_at_call 36; with_reducible refine (HB0.out _).mono ?_; rintro e w2 ⟨rfl, hw⟩; have hw2 := hw.symm; subst hw2; clear hw))
      clear hc hyb1 hyb2 HW1
      rw [HYy.out]
      obtain ⟨wo, hwo⟩ : ∃ wo : World, wo = wr := ⟨_, rfl⟩
      rw [← hwo] at HG1 HR1 ⊢
      clear hwo
      go_loopw [4, 5] (fun m left wr => ∃ j L : Nat, j < M ∧ m = .int .i64 ((j + 1 : Nat) : Int) ∧ left = .int .i64 (L : Int) ∧ L ≤ 400 ∧ n = b0 + Cal.ms Y j + L ∧ wo.grownBy wr none) (fun m _ _ => 100 - (intOf m).toNat)
      case atStart => exact ⟨0, n - b0, by omega, rfl, by go_num, by omega, by simp only [Cal.ms]; omega, grown_refl _ _⟩
      case round =>
        obtain ⟨j, L, hj, rfl, rfl, hL4, hnj, hg⟩ := hrel
        have HG := Lib.hid hg
        have HNj := Lib.hid hnj
        have hmo := HMonth.out j hj L (by rw [← HB.out]; exact hnj)
        have hdl := HDl.out (j + 1)
        have hms := HMs.out j
        clear hg hnj
        obtain ⟨m, hm⟩ : ∃ m, m = j + 1 := ⟨_, rfl⟩
        rw [← hm] at hmo hdl hms ⊢
        have HM := Lib.hid hm
        have HDi := Lib.hid (HDa.out m)
        generalize Cal.days Y m = dy at *
        have HMs2 := Lib.hid hms
        clear hm hms
        by_cases hjM : m < M
        · have hc : dy ≤ L := hmo.2 hjM
          clear hmo
          go_wp2_with (first
            | (go_at_call 21; with_reducible refine (HDi.out _ (grown_trans HG1.out HG.out)).mono ?_; rintro e w4 ⟨rfl, hg4⟩; have HG4 := Lib.hid (grown_trans HG.out hg4); clear hg4 HG)
            | (go_at_call 21; with_reducible refine (HDi.out _ (grown_trans HG1.out HG4.out)).mono ?_; rintro e w5 ⟨rfl, hg5⟩; have HG5 := Lib.hid (grown_trans HG4.out hg5); clear hg5))
          go_roundw
          case rel => exact ⟨m, L - dy, hjM, by go_num, by go_num, by omega, by rw [HNj.out, HMs2.out]; omega, HG5.out⟩
          case measure => simp [intOf]; omega
        · have hc : ¬ dy ≤ L := fun h => hjM (hmo.1 h)
          have hmM : m = M := by have := HM.out; omega
          have hLd : L + 1 = D := by
            have e1 := HE.out; have e2 := HNj.out; have e3 := HM.out
            rw [← HB.out] at e1
            rw [show M - 1 = j by omega] at e1
            omega
          clear hmo
          subst hmM
          have HLd := Lib.hid hLd
          clear hLd
          obtain ⟨DC, hDC⟩ : ∃ DC : Array Value, DC = #[.int .i64 (Y : Int), .int .i64 (m : Int), .int .i64 ((L : Int) + 1), .int .i64 0, .int .i64 0, .int .i64 0] := ⟨_, rfl⟩
          have HDC := Lib.hid hDC
          have HDs : Hid (DC.size = 6 ∧ DC.all (·.oneCell') = true) := Lib.hid (by rw [hDC]; exact ⟨rfl, by simp [Value.oneCell']⟩)
          clear hDC
          go_wp2_with (first
            | (go_at_call 21; with_reducible refine (HDi.out _ (grown_trans HG1.out HG.out)).mono ?_; rintro e w4 ⟨rfl, hg4⟩; have HG4 := Lib.hid (grown_trans HG.out hg4); clear hg4 HG; have HR4 := Lib.hid ((HG4.out.block _ (blk_lt HR1.out) (by simp)).trans HR1.out))
            | (rw [← HDC.out]; refine wpList_store_row (by rfl) 24 (.tmp 2) (.tmp 36) (by rfl) w.heap.size DC (by rfl) (by rfl) _ _ HR4.out (by rw [HDs.out.1]; exact HInf.out) (by rw [HDs.out.1]; rfl) HDs.out.2 ?_))
          refine bodyPost_ret (v := .agg DC) ?_ rfl ⟨?_, grown_setRow (grown_trans HG1.out HG4.out) (Nat.le_refl _) _⟩
          · exact results_cell_row Tryd.results27 _ _ w.heap.size _ _ (0, 0) _ rfl (setRow_heap _ _ _ DC _ _ HR4.out) Tryd.underlying24 rfl (by rw [HDs.out.1]; exact HInf.out)
          · rw [HDC.out, ← HLd.out]; rfl
end Go.Proofs.YtndjhhebmbmppaaDoor
