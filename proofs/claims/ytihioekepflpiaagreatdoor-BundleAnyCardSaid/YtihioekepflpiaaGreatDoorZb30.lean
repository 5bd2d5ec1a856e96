import Derived.Test.YtihioekepflpiaaGreatDoorZb01
import Derived.Test.YtihioekepflpiaaGreatDoorZb02
import Derived.Test.YtihioekepflpiaaGreatDoorZb05
import Derived.Test.YtihioekepflpiaaGreatDoorZb09
import Derived.Test.YtihioekepflpiaaGreatDoorZb12
import Derived.Test.YtihioekepflpiaaGreatDoorZb15
import Derived.Test.YtihioekepflpiaaGreatDoorZb19
import Derived.Test.YtihioekepflpiaaGreatDoorZb24
import Derived.Test.YtihioekepflpiaaGreatDoorZb25
import Derived.Laws.Rows
import Derived.Laws.Tables
import Derived.OrdersHeld
import Derived.Deep.RegionHeld3
import Derived.Laws.Cover3
set_option linter.unusedVariables false
set_option linter.unusedSimpArgs false
namespace Go.Proofs.YtihioekepflpiaaGreatDoor
open Go.RowKit
def inI (t : Int) : Prop := -9223372036854775808 ≤ t ∧ t ≤ 9223372036854775807
/-- A moment. -/
def isM (t : Int) : Prop := 0 ≤ t ∧ t ≤ 253402300799
instance (t : Int) : Decidable (isM t) := by unfold isM; infer_instance
def noDate : Value := .agg #[.int .i64 0, .int .i64 0, .int .i64 0, .int .i64 0, .int .i64 0, .int .i64 0]
/-- moments.Of answers as the document says, from w on. -/
def MoOf (A : Nat → Addr) (w : World) : Prop := ∀ (t : Int) (W : World), inI t → w.grownBy W none → Calls Tryz.prog 82 #[.int .i64 t] W fun e w' => W.grownBy w' none ∧ e = .returned (.tuple (if isM t then #[dV (Cal.of t.toNat).toI, .nilIface] else #[noDate, errV A 1]))
def MoPut (A : Nat → Addr) (w : World) : Prop := ∀ (t : Int) (W : World), inI t → w.grownBy W none → Calls Tryz.prog 63 #[.int .i64 t] W fun e w' => W.grownBy w' none ∧
  if isM t then ∃ a c, e = .returned (.tuple #[.slice a 15 c, .nilIface]) ∧ Bytes w' (.slice a 15 c) (Cal.text (Cal.of t.toNat)) else ∃ a c, e = .returned (.tuple #[.slice a 0 c, errV A 1])
end Go.Proofs.YtihioekepflpiaaGreatDoor
namespace Go.Proofs.YtihioekepflpiaaGreatDoor
open Go.RowKit
/-- Do all lie from lo to hi? -/
def inB (lo hi : Int) (l : List Int) : Bool := l.all fun x => decide (lo ≤ x) && decide (x ≤ hi)
theorem inB_false {lo hi : Int} {l : List Int} (k : Nat) (hk : k < l.length) (h : l.getD k 0 < lo ∨ hi < l.getD k 0) : inB lo hi l = false := by
  unfold inB
  rw [List.all_eq_false]
  refine ⟨l.getD k 0, ?_, ?_⟩
  · rw [List.getD_eq_getElem?_getD, List.getElem?_eq_getElem hk]; exact List.getElem_mem hk
  · simp only [Bool.and_eq_true, decide_eq_true_eq]; omega
theorem inB_true {lo hi : Int} {l : List Int} (h : ∀ j, j < l.length → lo ≤ l.getD j 0 ∧ l.getD j 0 ≤ hi) : inB lo hi l = true := by
  unfold inB
  rw [List.all_eq_true]
  intro x hx
  obtain ⟨j, hj, rfl⟩ := List.getElem_of_mem hx
  have := h j hj
  rw [List.getD_eq_getElem?_getD, List.getElem?_eq_getElem hj] at this
  simpa using this
theorem inB_one (lo hi x : Int) : inB lo hi [x] = (decide (lo ≤ x) && decide (x ≤ hi)) := by simp [inB]
set_option maxRecDepth 100000 in
set_option maxHeartbeats 1000000 in
theorem mwithin_any (lo hi : Int) (v : Value) (l : List Int) (w : World) (h : Ints w v l) (hl : l.length ≤ 1000000) :
    Calls Tryz.prog 116 #[.int .i64 lo, .int .i64 hi, v] w fun e w' => e = .returned (.bool (inB lo hi l)) ∧ w' = w := by
  obtain ⟨a1, g1, o1, c1, rfl, k1, k2, k3⟩ := h
  have K2 := Lib.hid k2
  have K3 := Lib.hid k3
  have HT : Hid ((∀ j, j < l.length → lo ≤ l.getD j 0 ∧ l.getD j 0 ≤ hi) → inB lo hi l = true) := Lib.hid inB_true
  have HF : Hid (∀ k, k < l.length → l.getD k 0 < lo ∨ hi < l.getD k 0 → inB lo hi l = false) := Lib.hid (fun k => inB_false k)
  clear k2 k3
  generalize inB lo hi l = D at *
  obtain ⟨n, hn⟩ : ∃ n, n = l.length := ⟨_, rfl⟩
  rw [← hn] at K2 K3 hl k1 HT HF ⊢
  clear hn
  go_enter Tryz.func116, Tryz.ntmps116
  go_wp2
  go_loopw [11] (fun i wr => ∃ k : Nat, k ≤ n ∧ i = .int .i64 k ∧ wr = w ∧ ∀ j, j < k → lo ≤ l.getD j 0 ∧ l.getD j 0 ≤ hi) (fun i _ => n - (intOf i).toNat)
  case atStart => exact ⟨0, Nat.zero_le _, rfl, rfl, fun j hj => absurd hj (Nat.not_lt_zero _)⟩
  case round =>
    obtain ⟨k, hk, rfl, rfl, hall⟩ := hrel
    have HAll := Lib.hid hall
    clear hall
    by_cases hlt : k < n
    · obtain ⟨rfl, _⟩ := K2.out (by omega)
      have f1 := K3.out k hlt
      have HFk := Lib.hid (HF.out k hlt)
      generalize hx : l.getD k 0 = x at *
      have HX := Lib.hid hx
      clear hx
      by_cases h1 : x < lo
      · have hD := Lib.hid (HFk.out (.inl h1))
        go_wp2
        go_ret
        exact ⟨retB2 hD.out.symm, rfl⟩
      · by_cases h2 : hi < x
        · have hD := Lib.hid (HFk.out (.inr h2))
          go_wp2
          go_ret
          exact ⟨retB2 hD.out.symm, rfl⟩
        · go_wp2
          go_roundw
          case rel => exact ⟨k + 1, by omega, by go_num, trivial, fun j hj => (by
            rcases Nat.lt_or_ge j k with h | h
            · exact HAll.out j h
            · obtain rfl : j = k := by omega
              rw [HX.out]; omega)⟩
          case measure => simp [intOf]; omega
    · obtain rfl : k = n := by omega
      have hD := Lib.hid (HT.out HAll.out)
      go_wp2
      go_ret
      exact ⟨retB2 hD.out.symm, rfl⟩
set_option maxRecDepth 100000 in
theorem isMoment_any (v : Value) (l : List Int) (w : World) (h : Ints w v l) (hl : l.length ≤ 1000000) :
    Calls Tryz.prog 103 #[v] w fun e w' => e = .returned (.bool (inB 0 253402300799 l)) ∧ w' = w := by
  have HW := Lib.hid (mwithin_any 0 253402300799 v l w h hl)
  clear h hl
  generalize inB 0 253402300799 l = D at *
  go_enter Tryz.func103, Tryz.ntmps103
  go_wp2_with (go_at_call 116; refine HW.out.mono ?_; rintro e w1 ⟨rfl, rfl⟩)
  go_ret
  exact ⟨rfl, rfl⟩
/-- One int, two ints, in a slice of the call's own. -/
theorem ints1 (w : World) (x : Int) : Ints (w.alloc (.cells #[.int .i64 x] 3)) (.slice (some ⟨w.heap.size, 0, none⟩) 1 1) [x] :=
  Ints.lit (l := [x]) (alloc_at w (.cells #[.int .i64 x] 3))
set_option maxRecDepth 100000 in
theorem mLeap_any (y : Int) (w : World) : Calls Tryz.prog 124 #[.int .i64 y] w fun e w' => e = .returned (.bool (Cal.leapI y)) ∧ w' = w := by
  have HL : Hid (Cal.leapI y = (decide (y.tmod 400 = 0) || (decide (y.tmod 4 = 0) && decide (y.tmod 100 ≠ 0)))) := Lib.hid (by
    unfold Cal.leapI
    have e1 := Cal.tmod_zero y 400 (by decide)
    have e2 := Cal.tmod_zero y 4 (by decide)
    have e3 := Cal.tmod_zero y 100 (by decide)
    simp only [← e1, ← e2, ne_eq, ← e3])
  generalize Cal.leapI y = R at *
  generalize h1 : y.tmod 400 = a at *
  generalize h2 : y.tmod 4 = b at *
  generalize h3 : y.tmod 100 = c at *
  by_cases hb : b = 0
  · subst hb
    by_cases hc : c = 0
    · subst hc
      by_cases ha : a = 0
      · subst ha
        go_enter Tryz.func124, Tryz.ntmps124
        go_wp2
        go_ret
        exact ⟨retB2 (by rw [HL.out]; simp), rfl⟩
      · have ha' : (a == 0) = false := beq_eq_false_iff_ne.2 ha
        go_enter Tryz.func124, Tryz.ntmps124
        go_wp2
        go_ret
        exact ⟨retB2 (by rw [HL.out]; simp [ha]), rfl⟩
    · have hc' : (c != 0) = true := by rw [bne, beq_eq_false_iff_ne.2 hc]; rfl
      go_enter Tryz.func124, Tryz.ntmps124
      go_wp2
      go_ret
      exact ⟨retB2 (by rw [HL.out]; simp [hc]), rfl⟩
  · have hb' : (b == 0) = false := beq_eq_false_iff_ne.2 hb
    by_cases ha : a = 0
    · subst ha
      go_enter Tryz.func124, Tryz.ntmps124
      go_wp2
      go_ret
      exact ⟨retB2 (by rw [HL.out]; simp), rfl⟩
    · have ha' : (a == 0) = false := beq_eq_false_iff_ne.2 ha
      go_enter Tryz.func124, Tryz.ntmps124
      go_wp2
      go_ret
      exact ⟨retB2 (by rw [HL.out]; simp [ha, hb]), rfl⟩
/-- The variable that holds how long months are. -/
structure Lens (w : World) : Prop where
  at_ : ∀ k, k < 12 → w.cell? ⟨31, k, none⟩ = some (.int .i64 (monthsL.getD k 0))
theorem Lens.grown {w w' : World} (h : Lens w) (hg : w.grownBy w' none) : Lens w' :=
  ⟨fun k hk => (World.cell?_of_block (hg.block _ (World.block_lt_of_cell? w _ (h.at_ k hk)) (by simp))).trans (h.at_ k hk)⟩
set_option maxRecDepth 100000 in
set_option maxHeartbeats 1000000 in
theorem mDays_any (y m : Int) (w : World) (hLn : Lens w) : Calls Tryz.prog 118 #[.int .i64 y, .int .i64 m] w fun e w' => e = .returned (.int .i64 ((Cal.daysI y m : Nat) : Int)) ∧ w.grownBy w' none := by
  have HL := Lib.hid (mLeap_any y)
  have HWi := Lib.hid (mwithin_any 1 12 _ [m] _ (ints1 w m) (by simp))
  rw [inB_one] at HWi
  have HG : Hid (w.grownBy (w.alloc (.cells #[.int .i64 m] 3)) none) := Lib.hid (World.grownBy_alloc _ _ _)
  have HLn := Lib.hid (hLn.grown HG.out)
  clear hLn
  obtain ⟨w1, hw1⟩ : ∃ w1, w1 = w.alloc (.cells #[.int .i64 m] 3) := ⟨_, rfl⟩
  have HW1 := Lib.hid hw1
  by_cases h1 : 1 ≤ m ∧ m ≤ 12
  · obtain ⟨h1, h2⟩ := h1
    rw [decide_eq_true h1, decide_eq_true h2] at HWi
    obtain ⟨k, hk⟩ : ∃ k : Nat, m = (k : Int) + 1 := ⟨(m - 1).toNat, by omega⟩
    have hk12 : k < 12 := by omega
    have hcell := HLn.out.at_ k hk12
    by_cases hm2 : m = 2
    · by_cases hl : Cal.leapI y = true
      · have HR : Hid (Cal.daysI y m = 29) := Lib.hid (by rw [Cal.daysI, if_neg (by omega), if_pos hm2, if_pos hl])
        rw [HR.out]
        rw [hl] at HL
        clear HR hk hl hcell
        subst hm2
        go_enter Tryz.func118, Tryz.ntmps118
        go_wp2_with (first
          | (go_at_call 116; refine HWi.out.mono ?_; rintro e w2 ⟨rfl, rfl⟩)
          | (go_at_call 124; refine (HL.out _).mono ?_; rintro e w2 ⟨rfl, rfl⟩))
        go_ret
        exact ⟨rfl, HG.out⟩
      · have hlf : Cal.leapI y = false := by rw [← Bool.not_eq_true]; exact hl
        have HR : Hid (Cal.daysI y m = 28) := Lib.hid (by rw [Cal.daysI, if_neg (by omega), if_pos hm2, if_neg hl])
        rw [HR.out]
        rw [hlf] at HL
        obtain rfl : k = 1 := by omega
        clear HR hk hl hlf
        subst hm2
        go_enter Tryz.func118, Tryz.ntmps118
        go_wp2_with (first
          | (go_at_call 116; refine HWi.out.mono ?_; rintro e w2 ⟨rfl, rfl⟩)
          | (go_at_call 124; refine (HL.out _).mono ?_; rintro e w2 ⟨rfl, rfl⟩))
        go_ret
        exact ⟨rfl, HG.out⟩
    · have hM := months_at (y := y) k hk12 (.inl (by omega))
      rw [hM, ← hk] at hcell
      generalize Cal.daysI y m = R at *
      subst hk
      have hb : ((k : Int) + 1 == 2) = false := beq_eq_false_iff_ne.2 hm2
      clear hM hm2
      go_enter Tryz.func118, Tryz.ntmps118
      go_wp2_with (first
        | (go_at_call 116; refine HWi.out.mono ?_; rintro e w2 ⟨rfl, rfl⟩)
        | (go_at_call 124; refine (HL.out _).mono ?_; rintro e w2 ⟨rfl, rfl⟩))
      go_ret
      exact ⟨rfl, HG.out⟩
  · have hf : (decide (1 ≤ m) && decide (m ≤ 12)) = false := by
      rw [Bool.and_eq_false_iff, decide_eq_false_iff_not, decide_eq_false_iff_not]; omega
    rw [hf] at HWi
    have HR : Hid (Cal.daysI y m = 0) := Lib.hid (by rw [Cal.daysI, if_pos (by omega)])
    rw [HR.out]
    go_enter Tryz.func118, Tryz.ntmps118
    go_wp2_with (first
      | (go_at_call 116; refine HWi.out.mono ?_; rintro e w2 ⟨rfl, rfl⟩)
      | (go_at_call 124; refine (HL.out _).mono ?_; rintro e w2 ⟨rfl, rfl⟩))
    go_ret
    exact ⟨rfl, HG.out⟩
end Go.Proofs.YtihioekepflpiaaGreatDoor
namespace Go.Proofs.YtihioekepflpiaaGreatDoor
open Go.RowKit
set_option maxRecDepth 100000 in
theorem leapsAhead_any (k : Nat) (hk : k ≤ 100000) (w : World) : Calls Tryz.prog 123 #[.int .i64 ((1970 + k : Nat) : Int)] w fun e w' => e = .returned (.int .i64 (((1969 + k) / 4 + (1969 + k) / 400 - (1969 + k) / 100 : Nat) : Int)) ∧ w' = w := by
  obtain ⟨y, hy⟩ : ∃ y : Int, y = ((1970 + k : Nat) : Int) := ⟨_, rfl⟩
  rw [← hy]
  have h1 : 1970 ≤ y := by omega
  have h2 : y ≤ 101970 := by omega
  have HY := Lib.hid hy
  clear hy
  go_enter Tryz.func123, Tryz.ntmps123
  go_wp2
  go_ret
  exact ⟨retI2 (by have := HY.out; omega), rfl⟩
theorem leaps1970 (w : World) : Calls Tryz.prog 123 #[.int .i64 1970] w fun e w' => e = .returned (.int .i64 477) ∧ w' = w := by
  have e1 : (1970 : Int) = ((1970 + 0 : Nat) : Int) := by omega
  have e2 : (((1969 + 0) / 4 + (1969 + 0) / 400 - (1969 + 0) / 100 : Nat) : Int) = 477 := by omega
  rw [e1, ← e2]
  exact leapsAhead_any 0 (by omega) w
set_option maxRecDepth 100000 in
theorem daysAhead_any (k : Nat) (hk : k ≤ 100000) (w : World) : Calls Tryz.prog 117 #[.int .i64 ((1970 + k : Nat) : Int)] w fun e w' => e = .returned (.int .i64 ((Cal.bef k : Nat) : Int)) ∧ w' = w := by
  have HA := Lib.hid (fun W => leapsAhead_any k hk W)
  have HB := Lib.hid leaps1970
  have HE := Lib.hid (Cal.bef_closed k)
  obtain ⟨y, hy⟩ : ∃ y : Int, y = ((1970 + k : Nat) : Int) := ⟨_, rfl⟩
  obtain ⟨q, hq⟩ : ∃ q : Nat, q = (1969 + k) / 4 + (1969 + k) / 400 - (1969 + k) / 100 := ⟨_, rfl⟩
  rw [← hy, ← hq] at HA
  rw [← hy]
  have h1 : 1970 ≤ y := by omega
  have h2 : y ≤ 101970 := by omega
  have h3 : q ≤ 200000 := by omega
  have HY := Lib.hid hy
  have HQ := Lib.hid hq
  clear hy hq
  go_enter Tryz.func117, Tryz.ntmps117
  go_wp2_with (first
    | (go_at_call 123; with_reducible refine (HA.out _).mono ?_; rintro e w2 ⟨rfl, rfl⟩)
    | (go_at_call 123; with_reducible refine (HB.out _).mono ?_; rintro e w2 ⟨rfl, rfl⟩))
  go_ret
  exact ⟨retI2 (by have := HY.out; have := HQ.out; have := HE.out; omega), rfl⟩
end Go.Proofs.YtihioekepflpiaaGreatDoor
namespace Go.Proofs.YtihioekepflpiaaGreatDoor
open Go.RowKit
set_option maxRecDepth 100000 in
set_option maxHeartbeats 1000000 in
theorem dateOfDay_any (d : Cal.Date) (hd : Cal.Right d) (w : World) (hLn : Lens w) : Calls Tryz.prog 104 #[.int .i64 ((Cal.dayOf d : Nat) : Int)] w fun e w' => e = .returned (dV ⟨(d.Y : Int), (d.M : Int), (d.D : Int), 0, 0, 0⟩) ∧ w.grownBy w' none := by
  have hl := Cal.dayOf_lt hd
  obtain ⟨Y, M, D, h, mi, s⟩ := d
  obtain ⟨⟨y1, y2⟩, ⟨m1, m2⟩, ⟨d1, d2⟩, h1, mi1, s1⟩ := hd
  simp only at y1 y2 m1 m2 d1 d2 h1 mi1 s1 hl
  obtain ⟨l1, l2, l3, l4⟩ := hl
  have hd31 := (Cal.days_pos (y := Y) m1 m2).2
  obtain ⟨k, hk⟩ : ∃ k, Y = 1970 + k := ⟨Y - 1970, by omega⟩
  have e1 : Y - 1970 = k := by omega
  rw [e1] at l1 l2 l3 l4
  have HBe := Lib.hid (fun (j : Nat) (hj : j ≤ 8031) W => daysAhead_any j (by omega) W)
  have HDa := Lib.hid (fun (j : Nat) W (hW : w.grownBy W none) => by
    have := mDays_any ((Y : Nat) : Int) ((j : Nat) : Int) W (hLn.grown hW)
    rw [Cal.daysI_nat] at this
    exact this)
  have hE : Cal.dayOf ⟨Y, M, D, h, mi, s⟩ = Cal.bef k + (D - 1) + Cal.ms Y (M - 1) := by
    unfold Cal.dayOf
    simp only
    rw [show Y - 1970 = k by omega]
    omega
  have hU : ∀ j, Cal.bef j ≤ 366 * j := fun j => by have := Cal.bef_closed j; omega
  have hbk : Cal.bef (k + 1) = Cal.bef k + Cal.yearLen Y := by rw [Cal.bef, hk]
  obtain ⟨n, hn⟩ : ∃ n, n = Cal.dayOf ⟨Y, M, D, h, mi, s⟩ := ⟨_, rfl⟩
  rw [← hn] at l1 l2 l3 l4 hE ⊢
  have hq : n / 366 ≤ k := by have := hU (k + 1); omega
  have hnb : n ≤ 3000000 := by have := hU (k + 1); omega
  have HYear : Hid (∀ i, i ≤ k → (Cal.bef (i + 1) ≤ n ↔ i < k)) := Lib.hid (fun i hi => by
    rcases Nat.lt_or_ge i k with h1 | h1
    · have := Cal.bef_mono (show i < k by omega)
      rw [show Cal.bef (i + 1) = Cal.bef i + Cal.yearLen (1970 + i) from rfl]
      omega
    · obtain rfl : i = k := by omega
      rw [hbk]
      omega)
  have HMonth : Hid (∀ j, j < M → ∀ left, n = Cal.bef k + Cal.ms Y j + left → (Cal.days Y (j + 1) ≤ left ↔ j + 1 < M)) := Lib.hid (fun j hj left hleft => by
    rcases Nat.lt_or_ge (j + 1) M with h1 | h1
    · have : Cal.ms Y (j + 1) ≤ Cal.ms Y (M - 1) := by
        rcases Nat.lt_or_ge (j + 1) (M - 1) with h2 | h2
        · have := Cal.ms_mono Y h2; omega
        · rw [show M - 1 = j + 1 by omega]; exact Nat.le_refl _
      rw [Cal.ms] at this
      omega
    · have hjM : j = M - 1 := by omega
      have hm : Cal.ms Y M = Cal.ms Y j + Cal.days Y (j + 1) := by rw [show M = j + 1 by omega]; rfl
      omega)
  have HBb : Hid (∀ j, j ≤ k + 1 → Cal.bef j ≤ 3000000) := Lib.hid (fun j hj => by have := hU j; omega)
  have HDl : Hid (∀ j, Cal.days Y j ≤ 31) := Lib.hid (fun j => by rw [← Cal.daysI_nat]; exact Cal.daysI_le _ _)
  have HMs : Hid (∀ j, Cal.ms Y (j + 1) = Cal.ms Y j + Cal.days Y (j + 1)) := Lib.hid (fun j => rfl)
  have HE := Lib.hid hE
  have HL1 := Lib.hid l1
  have HYk := Lib.hid hk
  obtain ⟨W1, hW1⟩ : ∃ W1, W1 = w.alloc (.cells #[.int .i64 0, .int .i64 0, .int .i64 0, .int .i64 0, .int .i64 0, .int .i64 0] 133) := ⟨_, rfl⟩
  have HG1 : Hid (w.grownBy W1 none) := Lib.hid (by rw [hW1]; exact World.grownBy_alloc _ _ _)
  have HR1 : Hid (W1.heap[w.heap.size]? = some (.cells #[.int .i64 0, .int .i64 0, .int .i64 0, .int .i64 0, .int .i64 0, .int .i64 0] 133 (0, 0))) := Lib.hid (by rw [hW1]; exact alloc_at w _)
  have HW1 := Lib.hid hW1
  have hq3 : ((n : Int) / 366) = ((n / 366 : Nat) : Int) := by omega
  have HQ3 := Lib.hid hq3
  have HQ := Lib.hid hq
  have hk8 : k ≤ 8030 := by omega
  have HInf : Hid ((Tryz.prog.info? 133).map (·.size) = some 6) := Lib.hid (by kernel_rfl)
  clear hW1 hn hE l1 l2 l3 l4 hU hbk hk e1 hq3 y1 hLn
  go_enter Tryz.func104, Tryz.ntmps104
  go_wp2
  rw [← HW1.out]
  go_loopw [3] (fun y wr => ∃ i : Nat, i ≤ k ∧ y = .int .i64 ((1970 + i : Nat) : Int) ∧ wr = W1) (fun y _ => 20000 - (intOf y).toNat)
  case atStart => exact ⟨n / 366, HQ.out, by rw [HQ3.out]; go_num, rfl⟩
  case round =>
    obtain ⟨i, hi, rfl, rfl⟩ := hrel
    have hbi := HBb.out (i + 1) (by omega)
    have HBi := Lib.hid (fun W => HBe.out (i + 1) (by omega) W)
    have hyi := HYear.out i hi
    obtain ⟨y, hy⟩ : ∃ y : Int, y = ((1970 + i : Nat) : Int) := ⟨_, rfl⟩
    rw [show ((1970 + (i + 1) : Nat) : Int) = y + 1 by omega] at HBi
    rw [← hy]
    generalize Cal.bef (i + 1) = b1 at *
    have hyb : 1970 ≤ y ∧ y ≤ 11000 := by omega
    obtain ⟨hyb1, hyb2⟩ := hyb
    have HY := Lib.hid hy
    clear hy
    by_cases hik : i < k
    · have hc : b1 ≤ n := hyi.2 hik
      clear hyi
      go_wp2_with (go_at_call 117; refine (HBi.out _).mono ?_; rintro e w2 ⟨rfl, hw⟩; have hw2 := hw.symm; subst hw2; clear hw)
      go_roundw
      case rel => exact ⟨i + 1, by omega, by have := HY.out; go_num, trivial⟩
      case measure => simp [intOf]; omega
    · obtain rfl : i = k := by omega
      have hc : ¬ b1 ≤ n := fun h => hik (hyi.1 h)
      have HB0 := Lib.hid (fun W => HBe.out i (by omega) W)
      rw [← HY.out] at HB0
      have hb0 := HL1.out
      obtain ⟨b0, hb⟩ : ∃ b0, b0 = Cal.bef i := ⟨_, rfl⟩
      rw [← hb] at HB0 hb0
      have HB := Lib.hid hb
      clear hyi hb hik
      have HYy : Hid (y = (Y : Int)) := Lib.hid (by rw [HY.out, ← HYk.out])
      have hn0 : n ≤ b0 + 400 := by
        have e1 := HE.out; have e2 := HMs.out; have e3 := ms_le Y (M - 1)
        rw [← HB.out] at e1
        omega
      go_wp2_with (first
        | (go_at_call 117; with_reducible refine (HBi.out _).mono ?_; rintro e w2 ⟨rfl, hw⟩; have hw2 := hw.symm; subst hw2; clear hw)
        | (go_at_call 117; with_reducible refine (HB0.out _).mono ?_; rintro e w2 ⟨rfl, hw⟩; have hw2 := hw.symm; subst hw2; clear hw))
      clear hc hyb1 hyb2 HW1
      rw [HYy.out]
      obtain ⟨wo, hwo⟩ : ∃ wo : World, wo = wr := ⟨_, rfl⟩
      rw [← hwo] at HG1 HR1 ⊢
      clear hwo
      go_loopw [4, 5] (fun m left wr => ∃ j L : Nat, j < M ∧ m = .int .i64 ((j + 1 : Nat) : Int) ∧ left = .int .i64 (L : Int) ∧ L ≤ 400 ∧ n = b0 + Cal.ms Y j + L ∧ wo.grownBy wr none) (fun m _ _ => 100 - (intOf m).toNat)
      case atStart => exact ⟨0, n - b0, by omega, rfl, by go_num, by omega, by simp only [Cal.ms]; omega, grown_refl _ _⟩
      case round =>
        obtain ⟨j, L, hj, rfl, rfl, hL4, hnj, hg⟩ := hrel
        have HG := Lib.hid hg
        have HNj := Lib.hid hnj
        have hmo := HMonth.out j hj L (by rw [← HB.out]; exact hnj)
        have hdl := HDl.out (j + 1)
        have hms := HMs.out j
        clear hg hnj
        obtain ⟨m, hm⟩ : ∃ m, m = j + 1 := ⟨_, rfl⟩
        rw [← hm] at hmo hdl hms ⊢
        have HM := Lib.hid hm
        have HDi := Lib.hid (HDa.out m)
        generalize Cal.days Y m = dy at *
        have HMs2 := Lib.hid hms
        clear hm hms
        by_cases hjM : m < M
        · have hc : dy ≤ L := hmo.2 hjM
          clear hmo
          go_wp2_with (first
            | (go_at_call 118; with_reducible refine (HDi.out _ (grown_trans HG1.out HG.out)).mono ?_; rintro e w4 ⟨rfl, hg4⟩; have HG4 := Lib.hid (grown_trans HG.out hg4); clear hg4 HG)
            | (go_at_call 118; with_reducible refine (HDi.out _ (grown_trans HG1.out HG4.out)).mono ?_; rintro e w5 ⟨rfl, hg5⟩; have HG5 := Lib.hid (grown_trans HG4.out hg5); clear hg5))
          go_roundw
          case rel => exact ⟨m, L - dy, hjM, by go_num, by go_num, by omega, by rw [HNj.out, HMs2.out]; omega, HG5.out⟩
          case measure => simp [intOf]; omega
        · have hc : ¬ dy ≤ L := fun h => hjM (hmo.1 h)
          have hmM : m = M := by have := HM.out; omega
          have hLd : L + 1 = D := by
            have e1 := HE.out; have e2 := HNj.out; have e3 := HM.out
            rw [← HB.out] at e1
            rw [show M - 1 = j by omega] at e1
            omega
          clear hmo
          subst hmM
          have HLd := Lib.hid hLd
          clear hLd
          obtain ⟨DC, hDC⟩ : ∃ DC : Array Value, DC = #[.int .i64 (Y : Int), .int .i64 (m : Int), .int .i64 ((L : Int) + 1), .int .i64 0, .int .i64 0, .int .i64 0] := ⟨_, rfl⟩
          have HDC := Lib.hid hDC
          have HDs : Hid (DC.size = 6 ∧ DC.all (·.oneCell') = true) := Lib.hid (by rw [hDC]; exact ⟨rfl, by simp [Value.oneCell']⟩)
          clear hDC
          go_wp2_with (first
            | (go_at_call 118; with_reducible refine (HDi.out _ (grown_trans HG1.out HG.out)).mono ?_; rintro e w4 ⟨rfl, hg4⟩; have HG4 := Lib.hid (grown_trans HG.out hg4); clear hg4 HG; have HR4 := Lib.hid ((HG4.out.block _ (blk_lt HR1.out) (by simp)).trans HR1.out))
            | (rw [← HDC.out]; refine wpList_store_row (by rfl) 133 (.tmp 2) (.tmp 36) (by rfl) w.heap.size DC (by rfl) (by rfl) _ _ HR4.out (by rw [HDs.out.1]; exact HInf.out) (by rw [HDs.out.1]; rfl) HDs.out.2 ?_))
          refine bodyPost_ret (v := .agg DC) ?_ rfl ⟨?_, grown_setRow (grown_trans HG1.out HG4.out) (Nat.le_refl _) _⟩
          · exact results_cell_row Tryz.results104 _ _ w.heap.size _ _ (0, 0) _ rfl (setRow_heap _ _ _ DC _ _ HR4.out) Tryz.underlying133 rfl (by rw [HDs.out.1]; exact HInf.out)
          · rw [HDC.out, ← HLd.out]; rfl
end Go.Proofs.YtihioekepflpiaaGreatDoor
namespace Go.Proofs.YtihioekepflpiaaGreatDoor
open Go.RowKit
theorem stored {W1 w2 : World} {z DC : Array Value} {T : TypeId} (hg : W1.grownBy w2 none) : W1.grownBy ((w2.alloc (.cells z T (0, 0))).setRow w2.heap.size DC) none ∧ w2.grownBy ((w2.alloc (.cells z T (0, 0))).setRow w2.heap.size DC) none ∧ ((w2.alloc (.cells z T (0, 0))).setRow w2.heap.size DC).heap[w2.heap.size]? = some (.cells DC T (0, 0)) :=
  ⟨grown_setRow (grown_alloc hg _) hg.size _, grown_setRow (World.grownBy_alloc _ _ _) (Nat.le_refl _) _, setRow_heap _ _ _ _ _ _ (alloc_at w2 _)⟩
end Go.Proofs.YtihioekepflpiaaGreatDoor
namespace Go.Proofs.YtihioekepflpiaaGreatDoor
open Go.RowKit
end Go.Proofs.YtihioekepflpiaaGreatDoor
namespace Go.Proofs.YtihioekepflpiaaGreatDoor
open Go.RowKit
theorem isM_in (t : Int) : inB 0 253402300799 [t] = decide (isM t) := by
  rw [inB_one, Bool.eq_iff_iff, Bool.and_eq_true, decide_eq_true_eq, decide_eq_true_eq, decide_eq_true_eq, isM]
end Go.Proofs.YtihioekepflpiaaGreatDoor
namespace Go.Proofs.YtihioekepflpiaaGreatDoor
open Go.RowKit
/-- Behind a call that hands back a struct and another value. -/
abbrev zeroD : Array Value := #[.int .i64 0, .int .i64 0, .int .i64 0, .int .i64 0, .int .i64 0, .int .i64 0]
theorem dayOf_div {d : Cal.Date} (h : Cal.Right d) (t : Nat) (hs : Cal.sec d = t) : Cal.dayOf d = t / 86400 ∧ d.h = t % 86400 / 3600 ∧ d.mi = t % 86400 % 3600 / 60 ∧ d.s = t % 86400 % 60 := by
  have hc := Cal.clock_lt h
  obtain ⟨_, _, _, h1, h2, h3⟩ := h
  unfold Cal.sec at hs
  have hc2 : Cal.clock d = (d.h * 60 + d.mi) * 60 + d.s := rfl
  omega
theorem ofEnd {W1 w4 : World} {g r : Nat} {DC zs DF : Array Value} {t t' : TypeId} (hg : W1.grownBy w4 none) (hs : W1.heap.size ≤ g) (hrow : w4.heap[g]? = some (.cells DC t (0, 0))) (hr : W1.heap[r]? = some (.cells zs t' (0, 0))) (a b c : Value)
    (hDF : ((DC.setIfInBounds 3 a).setIfInBounds 4 b).setIfInBounds 5 c = DF) :
    W1.grownBy (((w4.setCell ⟨g, 3, none⟩ a).setCell ⟨g, 4, none⟩ b).setCell ⟨g, 5, none⟩ c) none ∧ (((w4.setCell ⟨g, 3, none⟩ a).setCell ⟨g, 4, none⟩ b).setCell ⟨g, 5, none⟩ c).heap[g]? = some (.cells DF t (0, 0)) ∧
      (((w4.setCell ⟨g, 3, none⟩ a).setCell ⟨g, 4, none⟩ b).setCell ⟨g, 5, none⟩ c).heap[r]? = some (.cells zs t' (0, 0)) := by
  have h1 : W1.grownBy (((w4.setCell ⟨g, 3, none⟩ a).setCell ⟨g, 4, none⟩ b).setCell ⟨g, 5, none⟩ c) none := grown_set (grown_set (grown_set hg (.inl hs) _) (.inl hs) _) (.inl hs) _
  exact ⟨h1, by rw [heap_setCell_same _ _ _ _ _ _ (heap_setCell_same _ _ _ _ _ _ (heap_setCell_same _ _ _ _ _ _ hrow)), hDF], (h1.block _ (blk_lt hr) (by simp)).trans hr⟩
theorem zeroS {w : World} {g : Nat} {t : TypeId} (k : Nat) (hk : k < 6) (h : w.heap[g]? = some (.cells zeroD t (0, 0))) : (w.setCell ⟨g, k, none⟩ (.int .i64 0)).heap[g]? = some (.cells zeroD t (0, 0)) := by
  rw [heap_setCell_same _ _ _ _ _ _ h]
  match k, hk with
  | 0, _ => rfl
  | 1, _ => rfl
  | 2, _ => rfl
  | 3, _ => rfl
  | 4, _ => rfl
  | 5, _ => rfl
theorem zeroT {w w1 : World} {t : TypeId} (k : Nat) (hk : k < 6) (h : w.grownBy w1 none ∧ w1.heap[w.heap.size]? = some (.cells zeroD t (0, 0))) :
    w.grownBy (w1.setCell ⟨w.heap.size, k, none⟩ (.int .i64 0)) none ∧ (w1.setCell ⟨w.heap.size, k, none⟩ (.int .i64 0)).heap[w.heap.size]? = some (.cells zeroD t (0, 0)) :=
  ⟨grown_set h.1 (.inl (Nat.le_refl _)) _, zeroS k hk h.2⟩
theorem zeroEnd {w w1 : World} {t : TypeId} (hg : w.grownBy w1 none) (hr : w1.heap[w.heap.size]? = some (.cells zeroD t (0, 0))) :
    w.grownBy ((((((w1.setCell ⟨w.heap.size, 0, none⟩ (.int .i64 0)).setCell ⟨w.heap.size, 1, none⟩ (.int .i64 0)).setCell ⟨w.heap.size, 2, none⟩ (.int .i64 0)).setCell ⟨w.heap.size, 3, none⟩ (.int .i64 0)).setCell ⟨w.heap.size, 4, none⟩ (.int .i64 0)).setCell ⟨w.heap.size, 5, none⟩ (.int .i64 0)).drew none ∧
    ((((((w1.setCell ⟨w.heap.size, 0, none⟩ (.int .i64 0)).setCell ⟨w.heap.size, 1, none⟩ (.int .i64 0)).setCell ⟨w.heap.size, 2, none⟩ (.int .i64 0)).setCell ⟨w.heap.size, 3, none⟩ (.int .i64 0)).setCell ⟨w.heap.size, 4, none⟩ (.int .i64 0)).setCell ⟨w.heap.size, 5, none⟩ (.int .i64 0)).drew.heap[w.heap.size]? = some (.cells zeroD t (0, 0)) := by
  have h0 := zeroT 0 (by decide) ⟨hg, hr⟩
  have h1 := zeroT 1 (by decide) h0
  have h2 := zeroT 2 (by decide) h1
  have h3 := zeroT 3 (by decide) h2
  have h4 := zeroT 4 (by decide) h3
  have h5 := zeroT 5 (by decide) h4
  clear h0 h1 h2 h3 h4 hg hr
  revert h5
  generalize World.setCell _ _ _ = w9
  intro h5
  exact ⟨grown_drewN h5.1 1, h5.2⟩
set_option maxRecDepth 100000 in
set_option maxHeartbeats 1000000 in
theorem mOf_any (A : Nat → Addr) (W0 : World) (hE : AllErrs W0 A) (hL : Lens W0) : MoOf A W0 := by
  intro t w _ hg
  have HI1 : Hid ((Tryz.prog.info? 133).map (·.size) = some 6) := Lib.hid (by kernel_rfl)
  have him := isMoment_any _ [t] _ (ints1 (w.alloc (.cells zeroD 133)) t) (by simp)
  rw [isM_in, World.size_alloc] at him
  have HIm := Lib.hid him
  clear him
  have HG := Lib.hid (grown_alloc (World.grownBy_alloc w (.cells zeroD 133) none) (.cells #[.int .i64 t] 3))
  have HR : Hid (((w.alloc (.cells zeroD 133)).alloc (.cells #[.int .i64 t] 3)).heap[w.heap.size]? = some (.cells zeroD 133 (0, 0))) := Lib.hid (by
    rw [alloc_old _ _ _ (by simp)]; exact alloc_at w _)
  obtain ⟨W1, hW1⟩ : ∃ W1, W1 = (w.alloc (.cells zeroD 133)).alloc (.cells #[.int .i64 t] 3) := ⟨_, rfl⟩
  rw [← hW1] at HG HR HIm
  have HW1 := Lib.hid hW1
  clear hW1
  by_cases hm : isM t
  · rw [if_pos hm]
    rw [decide_eq_true hm] at HIm
    obtain ⟨m1, m2⟩ := hm
    obtain ⟨T, rfl⟩ : ∃ T : Nat, t = (T : Int) := ⟨t.toNat, by omega⟩
    rw [Int.toNat_natCast]
    obtain ⟨hr, hsc⟩ := Cal.of_right (t := T) (by omega)
    obtain ⟨e1, e2, e3, e4⟩ := dayOf_div hr T hsc
    generalize Cal.of T = d at *
    have HDd := fun W hW => dateOfDay_any d hr W (hL.grown (w' := W) (grown_trans hg hW))
    rw [show ((Cal.dayOf d : Nat) : Int) = (T : Int) / 86400 by omega] at HDd
    obtain ⟨DC, hDC⟩ : ∃ DC : Array Value, DC = #[.int .i64 (d.Y : Int), .int .i64 (d.M : Int), .int .i64 (d.D : Int), .int .i64 0, .int .i64 0, .int .i64 0] := ⟨_, rfl⟩
    have hdv : dV ⟨(d.Y : Int), (d.M : Int), (d.D : Int), 0, 0, 0⟩ = .agg DC := by rw [hDC]
    rw [hdv] at HDd
    have HDd := Lib.hid HDd
    have HDs : Hid (DC.size = 6 ∧ DC.all (·.oneCell') = true) := Lib.hid (by rw [hDC]; exact ⟨rfl, by simp [Value.oneCell']⟩)
    have HDC := Lib.hid hDC
    obtain ⟨DF, hDF⟩ : ∃ DF : Array Value, DF = #[.int .i64 (d.Y : Int), .int .i64 (d.M : Int), .int .i64 (d.D : Int), .int .i64 (d.h : Int), .int .i64 (d.mi : Int), .int .i64 (d.s : Int)] := ⟨_, rfl⟩
    have hdf : dV d.toI = .agg DF := by rw [hDF]; rfl
    rw [hdf]
    have HDFs : Hid (DF.size = 6 ∧ DF.all (·.oneCell') = true) := Lib.hid (by rw [hDF]; exact ⟨rfl, by simp [Value.oneCell']⟩)
    have HDF := Lib.hid hDF
    have HT := Lib.hid (show (T : Int) % 86400 / 3600 = (d.h : Int) ∧ (T : Int) % 3600 / 60 = (d.mi : Int) ∧ (T : Int) % 60 = (d.s : Int) by omega)
    clear hDC hdv hDF hdf e1 e2 e3 e4 hsc hr
    go_enter Tryz.func82, Tryz.ntmps82
    go_wp2_with (first
      | (go_at_call 103; rw [← HW1.out]; refine HIm.out.mono ?_; rintro e w2 ⟨rfl, hw⟩; rw [hw]; clear hw)
      | (go_at_call 104; refine (HDd.out _ HG.out).mono ?_; rintro e w3 ⟨rfl, hg3⟩; have HG3 := Lib.hid hg3; clear hg3)
      | (refine wpList_store_row (by rfl) 133 (.tmp 5) (.tmp 16) (by rfl) w3.heap.size DC (by rfl) (by rfl) _ _ (alloc_at w3 _) (by rw [HDs.out.1]; exact HI1.out) (by rw [HDs.out.1]; rfl) HDs.out.2 ?_; obtain ⟨w4, hx⟩ : ∃ W : World, W = (w3.alloc (.cells zeroD 133)).setRow w3.heap.size DC := ⟨_, rfl⟩; rw [← hx]; have hst := stored (z := zeroD) (DC := DC) (T := 133) HG3.out; rw [← hx, HDC.out] at hst; have HS := Lib.hid hst; have x3 := cell_blk hst.2.2 3 rfl; have y3 := free_blk hst.2.2 3; have x4 := cell_blk hst.2.2 4 rfl; have y4 := free_blk hst.2.2 4; have x5 := cell_blk hst.2.2 5 rfl; have y5 := free_blk hst.2.2 5; clear hst hx)
      | (obtain ⟨w5, hx5⟩ : ∃ W : World, W = ((w4.setCell ⟨w3.heap.size, 3, none⟩ (.int .i64 ((T : Int) % 86400 / 3600))).setCell ⟨w3.heap.size, 4, none⟩ (.int .i64 ((T : Int) % 3600 / 60))).setCell ⟨w3.heap.size, 5, none⟩ (.int .i64 ((T : Int) % 60)) := ⟨_, rfl⟩; rw [← hx5]; have h5 := ofEnd HS.out.1 HG3.out.size HS.out.2.2 HR.out (.int .i64 ((T : Int) % 86400 / 3600)) (.int .i64 ((T : Int) % 3600 / 60)) (.int .i64 ((T : Int) % 60)) (DF := DF) (by rw [HDF.out, HT.out.1, HT.out.2.1, HT.out.2.2]; rfl); rw [← hx5] at h5; have H5 := Lib.hid h5; clear h5 hx5 x3 y3 x4 y4 x5 y5; refine wpList_load_row (by rfl) 133 (.tmp 5) (by rfl) w3.heap.size (by rfl) _ DF (0, 0) _ H5.out.2.1 Tryz.underlying133 (by rfl) (by rw [HDFs.out.1]; exact HI1.out) ?_)
      | (refine wpList_store_row (by rfl) 133 (.tmp 2) (.tmp 27) (by rfl) w.heap.size DF (by rfl) (by rfl) _ _ H5.out.2.2 (by rw [HDFs.out.1]; exact HI1.out) (by rw [HDFs.out.1]; rfl) HDFs.out.2 ?_))
    refine bodyPost_ret (v := .tuple #[.agg DF, .nilIface]) ?_ rfl ⟨grown_setRow (grown_trans HG.out H5.out.1) (Nat.le_refl _) _, rfl⟩
    exact results_rowT Tryz.results82 _ _ w.heap.size _ _ (0, 0) _ _ rfl (setRow_heap _ _ _ DF _ _ H5.out.2.2) Tryz.underlying133 rfl (by rw [HDFs.out.1]; exact HI1.out) rfl
  · rw [if_neg hm]
    rw [decide_eq_false hm] at HIm
    have he := err_range (hE.grown (grown_trans hg HG.out))
    clear hm
    go_enter Tryz.func82, Tryz.ntmps82
    go_wp2_with (go_at_call 103; rw [← HW1.out]; refine HIm.out.mono ?_; rintro e w2 ⟨rfl, hw⟩; rw [hw]; clear hw)
    have hz : 2 < w.heap.size := World.block_lt_of_cell? w _ (err_range (hE.grown hg))
    have hz1 : w.heap.size ≠ 2 := by omega
    have hz2 : 2 ≠ w.heap.size := by omega
    have x0 := cell_blk HR.out 0 rfl
    have x1 := cell_blk HR.out 1 rfl
    have x2 := cell_blk HR.out 2 rfl
    have x3 := cell_blk HR.out 3 rfl
    have x4 := cell_blk HR.out 4 rfl
    have x5 := cell_blk HR.out 5 rfl
    have y0 := free_blk HR.out 0
    have y1 := free_blk HR.out 1
    have y2 := free_blk HR.out 2
    have y3 := free_blk HR.out 3
    have y4 := free_blk HR.out 4
    have y5 := free_blk HR.out 5
    go_region
    obtain ⟨w9, hw9⟩ : ∃ W : World, W = ((((((W1.setCell ⟨w.heap.size, 0, none⟩ (.int .i64 0)).setCell ⟨w.heap.size, 1, none⟩ (.int .i64 0)).setCell ⟨w.heap.size, 2, none⟩ (.int .i64 0)).setCell ⟨w.heap.size, 3, none⟩ (.int .i64 0)).setCell ⟨w.heap.size, 4, none⟩ (.int .i64 0)).setCell ⟨w.heap.size, 5, none⟩ (.int .i64 0)).drew := ⟨_, rfl⟩
    rw [← hw9]
    have h9 := zeroEnd HG.out HR.out
    rw [← hw9] at h9
    have H9 := Lib.hid h9
    clear h9 hw9 x0 x1 x2 x3 x4 x5 y0 y1 y2 y3 y4 y5 hz hz1 hz2 he
    go_wp2
    refine bodyPost_ret (v := .tuple #[.agg zeroD, errV A 1]) ?_ rfl ⟨H9.out.1, rfl⟩
    exact results_rowT Tryz.results82 _ _ w.heap.size _ _ (0, 0) _ _ rfl H9.out.2 Tryz.underlying133 rfl HI1.out rfl
end Go.Proofs.YtihioekepflpiaaGreatDoor
namespace Go.Proofs.YtihioekepflpiaaGreatDoor
open Go.RowKit
end Go.Proofs.YtihioekepflpiaaGreatDoor
namespace Go.Proofs.YtihioekepflpiaaGreatDoor
open Go.RowKit
theorem make15 (W : World) : (Instr.makeSlice 58 (.int .i64 0) (.int .i64 15)).run Tryz.prog W = .ok (.slice (some ⟨W.heap.size, 0, none⟩) 0 15) (W.alloc (.cells (madeCells (Value.int IntKind.u8 0).cells 15) 5)) := by
  obtain ⟨iT, i1, i2, i3, i4⟩ := info_parts (P := Tryz.prog) (e := 5) (z := .int .u8 0) (size := 1) (bytes := 1) (by kernel_rfl)
  rw [run_makeSlice W 58 5 iT (.int .u8 0) Tryz.underlying58 i1 i2 .i64 .i64 0 15 (by omega) (by omega) (by rw [i3]; simp) (by rw [i4]; simp) (by omega), i3]
  rfl
theorem own15 (w : World) : FrW w (w.alloc (.cells (madeCells (Value.int IntKind.u8 0).cells 15) 5)) (.slice (some ⟨w.heap.size, 0, none⟩) 0 15) [] :=
  ⟨World.grownBy_alloc _ _ _, by
    refine ⟨rfl, .inr ⟨w.heap.size, 15, _, rfl, Nat.le_refl _, alloc_at w _, Nat.zero_le _, by unfold maxLen; omega, ?_, ?_⟩⟩
    · rw [size_madeCells]
    · simp [cellsL]⟩
set_option maxRecDepth 100000 in
set_option maxHeartbeats 1000000 in
theorem bodyOf_any (P : List Nat) (hP : ∀ x ∈ P, x < 100) (hl : P.length ≤ 1000) (v : Value) (w : World) (h : Ints w v (P.map fun (x : Nat) => (x : Int))) :
    Calls Tryz.prog 83 #[v] w fun e w' => ∃ u, e = .returned u ∧ FrW w w' u (Cal.twos P ++ [90]) := by
  obtain ⟨a, sb, so, c, rfl, hc, ha, hcell⟩ := h
  rw [List.length_map] at hc ha hcell ⊢
  have HC : Hid (∀ W, w.grownBy W none → ∀ j, j < P.length → a = some ⟨sb, so, none⟩ ∧ W.cell? ⟨sb, so + j, none⟩ = some (.int .i64 ((P.getD j 0 : Nat) : Int))) := Lib.hid (fun W hW j hj => by
    obtain ⟨e1, e2⟩ := ha (by omega)
    refine ⟨e1, ?_⟩
    rw [World.cell?_of_block (hW.block sb e2 (by simp)), hcell j hj]
    simp [List.getD_eq_getElem?_getD, hj])
  have HPt := Lib.hid (Cal.take_pairs P)
  have HP1 : Hid (∀ j, j < P.length → P.getD j 0 < 100) := Lib.hid (fun j hj => by
    rw [List.getD_eq_getElem?_getD, List.getElem?_eq_getElem hj]; exact hP _ (List.getElem_mem hj))
  have HTl := Lib.hid Cal.twos_len
  have F0 := Lib.hid (own15 w)
  have hmk := make15 w
  obtain ⟨W1, hW1⟩ : ∃ W1, W1 = w.alloc (.cells (madeCells (Value.int IntKind.u8 0).cells 15) 5) := ⟨_, rfl⟩
  rw [← hW1] at hmk F0
  have HTk : Hid (Cal.twos (P.take P.length) = Cal.twos P) := Lib.hid (by rw [List.take_of_length_le (Nat.le_refl _)])
  have HTL : Hid ((Cal.twos P).length ≤ 2000) := Lib.hid (by rw [Cal.twos_len]; omega)
  have HTl2 : Hid (∀ j, (Cal.twos (P.take j)).length ≤ 2000) := Lib.hid (fun j => by rw [Cal.twos_len, List.length_take]; omega)
  obtain ⟨n, hn⟩ : ∃ n, n = P.length := ⟨_, rfl⟩
  rw [← hn] at HC HPt HP1 hc hl HTk ⊢
  clear hn ha hcell hP hW1
  go_enter Tryz.func83, Tryz.ntmps83
  go_wp2
  clear hmk
  go_loopw [3, 9] (fun v i wr => ∃ j : Nat, j ≤ n ∧ i = .int .i64 ((j : Nat) : Int) ∧ FrW w wr v (Cal.twos (P.take j))) (fun _ i _ => n - (intOf i).toNat)
  case atStart => exact ⟨0, by omega, rfl, F0.out⟩
  case round =>
    obtain ⟨j, hj, rfl, hF⟩ := hrel
    have HF := Lib.hid hF
    by_cases hjn : j < n
    · obtain ⟨rfl, hck⟩ := HC.out _ hF.grown j hjn
      have HTj := Lib.hid (HPt.out j hjn)
      have hp := HP1.out j hjn
      generalize P.getD j 0 = p at *
      have HNx : Hid (Cal.twos (P.take (j + 1)) = Cal.twos (P.take j) ++ Cal.two p) := Lib.hid (by rw [HTj.out, Cal.twos_snoc])
      have HLn := Lib.hid (HTl2.out j)
      clear hF HTj
      go_wp2_with (at_builtin; refine wpList_appB (by rfl) (.tmp 13) (.tmp 22) 58 (by rfl) w.heap.size 5 (.int .u8 0) 1 Tryz.underlying58 (by kernel_rfl) rfl (by decide) _ _ _ (by rfl) (HF.out.own.alloc _) _ (Cal.two p) (by rfl) (two_bytes hp _ _ _ (by omega) (by omega)) (Whole0.some _ _ _) (by have := HLn.out; simp only [Cal.two, List.length_cons, List.length_nil]; omega) (by have := HF.out.le; rw [alloc_size]; omega) ?_; intro v3 w3 ho3 hg3; have HH := Lib.hid ((HF.out.alloc _).step (l' := Cal.twos (P.take (j + 1))) ho3 hg3 (by rw [HNx.out]; exact (cellsL_append _ _).symm)); clear ho3 hg3)
      go_roundw
      case rel => exact ⟨j + 1, by omega, by go_num, HH.out⟩
      case measure => simp [intOf]; omega
    · obtain rfl : j = n := by omega
      rw [HTk.out] at HF
      clear hF
      go_wp2_with (at_builtin; refine wpList_appB (by rfl) (.tmp 25) (.tmp 26) 58 (by rfl) w.heap.size 5 (.int .u8 0) 1 Tryz.underlying58 (by kernel_rfl) rfl (by decide) _ _ _ (by rfl) (HF.out.own.alloc _) _ [90] (by rfl) (Bytes.lit (alloc_at _ _) (by decide)) (Whole0.some _ _ _) (by have := HTL.out; simp only [List.length_cons, List.length_nil]; omega) (by have := HF.out.le; rw [alloc_size]; omega) ?_; intro v3 w3 ho3 hg3; have HH := Lib.hid ((HF.out.alloc _).step (l' := Cal.twos P ++ [90]) ho3 hg3 (cellsL_append _ _).symm); clear ho3 hg3)
      go_ret
      exact ⟨_, rfl, HH.out⟩
end Go.Proofs.YtihioekepflpiaaGreatDoor
namespace Go.Proofs.YtihioekepflpiaaGreatDoor
open Go.RowKit
theorem ints7 (w : World) (d : Cal.Date) : Ints (w.alloc (.cells #[.int .i64 ((d.Y : Int) / 100), .int .i64 ((d.Y : Int) % 100), .int .i64 (d.M : Int), .int .i64 (d.D : Int), .int .i64 (d.h : Int), .int .i64 (d.mi : Int), .int .i64 (d.s : Int)] 3)) (.slice (some ⟨w.heap.size, 0, none⟩) 7 7) ((Cal.pairs d).map fun (x : Nat) => (x : Int)) := by
  have e : (Cal.pairs d).map (fun (x : Nat) => (x : Int)) = [(d.Y : Int) / 100, (d.Y : Int) % 100, (d.M : Int), (d.D : Int), (d.h : Int), (d.mi : Int), (d.s : Int)] := by
    simp only [Cal.pairs, List.map_cons, List.map_nil, Int.natCast_ediv, Int.natCast_emod]
    rfl
  rw [e]
  exact Ints.lit (l := [(d.Y : Int) / 100, (d.Y : Int) % 100, (d.M : Int), (d.D : Int), (d.h : Int), (d.mi : Int), (d.s : Int)]) (alloc_at w _)
set_option maxRecDepth 100000 in
set_option maxHeartbeats 1000000 in
theorem mPut_any (A : Nat → Addr) (W0 : World) (hE : AllErrs W0 A) (hL : Lens W0) : MoPut A W0 := by
  intro t w ht hg
  have HI1 : Hid ((Tryz.prog.info? 133).map (·.size) = some 6) := Lib.hid (by kernel_rfl)
  have hof := mOf_any A W0 hE hL t w ht hg
  by_cases hm : isM t
  · rw [if_pos hm] at hof
    simp only [if_pos hm]
    obtain ⟨m1, m2⟩ := hm
    obtain ⟨hr, _⟩ := Cal.of_right (t := t.toNat) (by omega)
    generalize Cal.of t.toNat = d at *
    have hp := Cal.pairs_lt hr
    have hb := fun v W h => bodyOf_any (Cal.pairs d) (fun x hx => by
      obtain ⟨j, hj, rfl⟩ := List.getElem_of_mem hx
      have := hp j
      rw [List.getD_eq_getElem?_getD, List.getElem?_eq_getElem hj] at this
      exact this) (by simp [Cal.pairs]) v W h
    rw [← Cal.text_twos] at hb
    have HBo := Lib.hid (fun W => hb _ _ (ints7 W d))
    have HTl : Hid ((Cal.text d).length = 15) := Lib.hid rfl
    have HT6 : Hid (∀ x ∈ Cal.text d, x < 256) := Lib.hid (by
      intro x hx
      rw [Cal.text_twos, List.mem_append] at hx
      rcases hx with hx | hx
      · refine Cal.twos_lt (fun x hx => ?_) x hx
        obtain ⟨j, hj, rfl⟩ := List.getElem_of_mem hx
        have := hp j
        rw [List.getD_eq_getElem?_getD, List.getElem?_eq_getElem hj] at this
        exact this
      · simp at hx; omega)
    have hy0 : (0 : Int) ≤ (d.Y : Int) := by omega
    obtain ⟨DF, hDF⟩ : ∃ DF : Array Value, DF = #[.int .i64 (d.Y : Int), .int .i64 (d.M : Int), .int .i64 (d.D : Int), .int .i64 (d.h : Int), .int .i64 (d.mi : Int), .int .i64 (d.s : Int)] := ⟨_, rfl⟩
    have hdf : dV d.toI = .agg DF := by rw [hDF]; rfl
    rw [hdf] at hof
    have HOf := Lib.hid hof
    have HDF := Lib.hid hDF
    have HDs : Hid (DF.size = 6 ∧ DF.all (·.oneCell') = true) := Lib.hid (by rw [hDF]; exact ⟨rfl, by simp [Value.oneCell']⟩)
    have hyr : (d.Y : Int) ≤ 9999 := by have := hr.1.2; omega
    clear hof hdf hDF hb hp hr
    generalize Cal.text d = TX at *
    go_enter Tryz.func63, Tryz.ntmps63
    go_wp2_with (first
      | (go_at_call 82; refine HOf.out.mono ?_; rintro e w1 ⟨hg1, rfl⟩; have HG1 := Lib.hid hg1; clear hg1)
      | (refine wpList_store_row (by rfl) 133 (.tmp 4) (.tmp 9) (by rfl) w1.heap.size DF (by rfl) (by rfl) _ _ (alloc_at w1 _) (by rw [HDs.out.1]; exact HI1.out) (by rw [HDs.out.1]; rfl) HDs.out.2 ?_; obtain ⟨w2, hx⟩ : ∃ W : World, W = (w1.alloc (.cells zeroD 133)).setRow w1.heap.size DF := ⟨_, rfl⟩; rw [← hx]; have hst := stored (z := zeroD) (DC := DF) (T := 133) HG1.out; rw [← hx, HDF.out] at hst; have HS := Lib.hid hst; have x0 := cell_blk hst.2.2 0 rfl; have x1 := cell_blk hst.2.2 1 rfl; have x2 := cell_blk hst.2.2 2 rfl; have x3 := cell_blk hst.2.2 3 rfl; have x4 := cell_blk hst.2.2 4 rfl; have x5 := cell_blk hst.2.2 5 rfl; clear hst hx)
      | (go_at_call 83; refine (HBo.out w2).mono ?_; rintro e w3 ⟨u, rfl, hf⟩; have HF := Lib.hid hf; have HG2 := Lib.hid (grown_trans HS.out.1 (grown_trans (World.grownBy_alloc w2 _ none) hf.grown)); clear hf))
    go_ret2
    obtain ⟨a, g, c, rfl, _⟩ := ownsRow_form HF.out.own
    have hB := Bytes.own HF.out.own HT6.out
    rw [HTl.out] at hB ⊢
    exact ⟨HG2.out, _, _, rfl, hB⟩
  · rw [if_neg hm] at hof
    simp only [if_neg hm]
    obtain ⟨Z, hZ⟩ : ∃ Z : Array Value, noDate = .agg Z := ⟨_, rfl⟩
    have HDs : Hid (Z.size = 6 ∧ Z.all (·.oneCell') = true) := Lib.hid (by
      rw [noDate] at hZ
      obtain rfl := Value.agg.inj hZ
      exact ⟨rfl, by simp [Value.oneCell']⟩)
    rw [hZ] at hof
    have HOf := Lib.hid hof
    clear hof hZ hm
    go_enter Tryz.func63, Tryz.ntmps63
    go_wp2_with (first
      | (go_at_call 82; refine HOf.out.mono ?_; rintro e w1 ⟨hg1, rfl⟩; have HG1 := Lib.hid hg1; clear hg1)
      | (refine wpList_store_row (by rfl) 133 (.tmp 4) (.tmp 9) (by rfl) w1.heap.size Z (by rfl) (by rfl) _ _ (alloc_at w1 _) (by rw [HDs.out.1]; exact HI1.out) (by rw [HDs.out.1]; rfl) HDs.out.2 ?_; obtain ⟨w2, hx⟩ : ∃ W : World, W = (w1.alloc (.cells zeroD 133)).setRow w1.heap.size Z := ⟨_, rfl⟩; rw [← hx]; have hst := stored (z := zeroD) (DC := Z) (T := 133) HG1.out; rw [← hx] at hst; have HS := Lib.hid hst; clear hst hx))
    go_ret2
    exact ⟨HS.out.1, _, _, rfl⟩
end Go.Proofs.YtihioekepflpiaaGreatDoor
namespace Go.Proofs.YtihioekepflpiaaGreatDoor
open Go.RowKit
end Go.Proofs.YtihioekepflpiaaGreatDoor
namespace Go.Proofs.YtihioekepflpiaaGreatDoor
open Go.RowKit
section
variable {P : Program} {a : Act} {o : Oper} {w : World}
end
end Go.Proofs.YtihioekepflpiaaGreatDoor
