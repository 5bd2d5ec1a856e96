/- The walk of sha's schedule. -/
import Derived.Test.YtndgbhgalablfaaDoorSh2
import Derived.Test.YtndgbhgalablfaaDoorQTail
import Derived.Test.YtndgbhgalablfaaDoorByt
namespace Go.Proofs.YtndgbhgalablfaaDoor
open Go.RowKit


/-- The world in schedule's loops: the block, the answer's place, the words that are done and noughts behind them. -/
def SchW (w wr : World) (V : Array Value) (done : List Nat) : Prop :=
  w.grownBy wr none ∧ wr.heap.size = w.heap.size + 3 ∧ wr.heap[w.heap.size]? = some (.cells V 76 (0, 0)) ∧ wr.heap[w.heap.size + 1]? = some (.cells (wordsV (List.replicate 64 0)) 120 (0, 0)) ∧
    wr.heap[w.heap.size + 2]? = some (.cells (wordsV (done ++ List.replicate (64 - done.length) 0)) 120 (0, 0))

theorem SchW.drewN {w wr : World} {V : Array Value} {d : List Nat} (h : SchW w wr V d) (n : Nat) : SchW w (wr.drewN n) V d := by
  obtain ⟨h1, h2, h3, h4, h5⟩ := h
  exact ⟨⟨h1.os, h1.tape, h1.output, h1.size, h1.block⟩, h2, h3, h4, h5⟩

theorem wordsV_set (d : List Nat) (x : Nat) (h : d.length < 64) :
    (wordsV (d ++ List.replicate (64 - d.length) 0)).setIfInBounds d.length (.int .u32 (x : Int)) = wordsV ((d ++ [x]) ++ List.replicate (64 - (d ++ [x]).length) 0) := by
  obtain ⟨m, hm⟩ : ∃ m, 64 - d.length = m + 1 := ⟨63 - d.length, by omega⟩
  have e : 64 - (d ++ [x]).length = m := by simp; omega
  rw [e, hm]
  simp [wordsV, List.replicate_succ]

theorem SchW.set {w wr : World} {V : Array Value} {d : List Nat} (h : SchW w wr V d) (hd : d.length < 64) (x : Nat) : SchW w (wr.setCell ⟨w.heap.size + 2, d.length, none⟩ (.int .u32 (x : Int))) V (d ++ [x]) := by
  obtain ⟨h1, h2, h3, h4, h5⟩ := h
  refine ⟨grown_set h1 (.inl (by show w.heap.size ≤ w.heap.size + 2; omega)) _, ?_, ?_, ?_, ?_⟩
  · simpa [World.setCell] using h2
  · rw [Below.heap_setCell _ _ _ _ (by show w.heap.size ≠ w.heap.size + 2; omega)]; exact h3
  · rw [Below.heap_setCell _ _ _ _ (by show w.heap.size + 1 ≠ w.heap.size + 2; omega)]; exact h4
  · rw [setCell_heap h5, wordsV_set d x hd]

theorem SchW.start (w : World) (V : Array Value) : SchW w (((w.alloc (.cells V 76)).alloc (.cells (wordsV (List.replicate 64 0)) 120)).alloc (.cells (wordsV (List.replicate 64 0)) 120)) V [] := by
  have e : ∀ (w : World) (o : Obj), (w.alloc o).heap = w.heap.push o := fun _ _ => rfl
  refine ⟨⟨rfl, rfl, rfl, ?_, ?_⟩, ?_, ?_, ?_, ?_⟩
  · simp [e]; omega
  · intro k hk _
    simp [e, Array.getElem?_push, show k ≠ w.heap.size + 1 + 1 by omega, show k ≠ w.heap.size + 1 by omega, show k ≠ w.heap.size by omega]
  · simp [e]
  · simp [e, Array.getElem?_push]; omega
  · simp [e, Array.getElem_push]
  · simp [e, Array.getElem_push]

theorem SchW.facts {w wr : World} {V : Array Value} {d : List Nat} (h : SchW w wr V d) (hd : d.length < 64) :
    (∀ i v, V[i]? = some v → wr.cell? ⟨w.heap.size, i, none⟩ = some v) ∧ (∀ i, i < d.length → wr.cell? ⟨w.heap.size + 1 + 1, i, none⟩ = some (.int .u32 (d.getD i 0 : Nat))) ∧
      wr.cell? ⟨w.heap.size + 1 + 1, d.length, none⟩ = some (.int .u32 0) ∧ wr.frozen? ⟨w.heap.size + 1 + 1, d.length, none⟩ = false := by
  obtain ⟨h1, h2, h3, h4, h5⟩ := h
  obtain ⟨m, hm⟩ : ∃ m, 64 - d.length = m + 1 := ⟨63 - d.length, by omega⟩
  refine ⟨fun i v hv => cell_blk h3 i hv, fun i hi => cell_blk h5 i ?_, cell_blk h5 _ ?_, free_blk h5 _⟩
  · rw [wordsV_at _ _ (by simp; omega)]
    simp [List.getElem?_append_left hi]
  · rw [hm]
    simp [wordsV, List.replicate_succ]

theorem word_out (a b c d : Nat) (ha : a < 256) (hb : b < 256) (hc : c < 256) (hd : d < 256) :
    bits .or .u32 (bits .or .u32 (bits .or .u32 (a * 16777216 : Int) (b * 65536 : Int)) (c * 256 : Int)) (d : Int) = ((((a * 16777216 ||| b * 65536) ||| c * 256) ||| d : Nat) : Int) := by
  have e1 : (a * 16777216 : Int) = ((a * 16777216 : Nat) : Int) := by simp
  have e2 : (b * 65536 : Int) = ((b * 65536 : Nat) : Int) := by simp
  have e3 : (c * 256 : Int) = ((c * 256 : Nat) : Int) := by simp
  have l1 : a * 16777216 ||| b * 65536 < 4294967296 := Nat.or_lt_two_pow (n := 32) (by omega) (by omega)
  have l2 : (a * 16777216 ||| b * 65536) ||| c * 256 < 4294967296 := Nat.or_lt_two_pow (n := 32) l1 (by omega)
  rw [e1, e2, e3, u32_or_nat _ _ (by omega) (by omega), u32_or_nat _ _ l1 (by omega), u32_or_nat _ _ l2 (by omega)]

theorem wordsV_one (ws : List Nat) : (wordsV ws).all (·.oneCell') = true := by
  simp [wordsV, Value.oneCell']
theorem slice47 (a : Addr) (l h : Nat) (hl : l ≤ h) (hl2 : l < 64) (hh : h ≤ 64) (L H : Int) (hL : L = l) (hH : H = h) (W : World) :
    (Instr.sliceAt 76 (.pointer (some a)) (some (.int .i64 L)) (some (.int .i64 H)) none).run Tryd.prog W = .ok (.slice (some (a.add l)) (h - l) (64 - l)) W := by
  have e : Tryd.prog.arrayLen 76 = 64 := by kernel_rfl
  have z : ∀ W, (sizeOf (Tryd.prog.elem 76)).run Tryd.prog W = .ok 1 W := fun W => by kernel_rfl
  rw [run_sliceAt_array_lh W 76 a (by kernel_rfl) .i64 .i64 L H (by omega) (by omega) (by rw [e]; omega), z]
  subst hL; subst hH
  have h64 : 64 ≠ l := by omega
  simp [slicedAt, e, Result.andThen, h64]

set_option maxRecDepth 100000 in
set_option maxHeartbeats 1000000 in
theorem schedule_any (bs : List Nat) (hb : bs.length = 64) (hlt : ∀ x ∈ bs, x < 256) (w : World) :
    Calls Tryd.prog 75 #[.agg (bytesV bs)] w fun e w' => e = .returned (.agg (wordsV (Sha.sched bs))) ∧ w.grownBy w' none := by
  obtain ⟨V, hV⟩ : ∃ V, V = bytesV bs := ⟨_, rfl⟩
  have hz : V.size = 64 := by rw [hV, bytesV_size, hb]
  have hVat : ∀ i, i < 64 → V[i]? = some (.int .u8 (bs.getD i 0 : Nat)) := fun i h => by rw [hV]; exact bytesV_at bs i (by omega)
  have HVat := Lib.hid hVat
  have Hlt := Lib.hid hlt
  rw [← hV]
  clear hV hVat hlt
  go_enter Tryd.func75, Tryd.ntmps75
  go_wp2
  go_loopw [7] (fun i wr => ∃ k : Nat, k ≤ 16 ∧ i = .int .i64 k ∧ SchW w wr V (Sha.words bs k)) (fun i _ => 16 - (intOf i).toNat)
  case atStart => exact ⟨0, Nat.zero_le _, rfl, SchW.start w V⟩
  case round =>
    obtain ⟨k, hk, rfl, hS⟩ := hrel
    have hL := Sha.words_len bs k
    by_cases hlt : k < 16
    · obtain ⟨f1, _, f3, f4⟩ := hS.facts (by omega)
      rw [hL] at f3 f4
      obtain ⟨b0, h0⟩ : ∃ x, x = bs.getD (4 * k) 0 := ⟨_, rfl⟩
      obtain ⟨b1, h1⟩ : ∃ x, x = bs.getD (4 * k + 1) 0 := ⟨_, rfl⟩
      obtain ⟨b2, h2⟩ : ∃ x, x = bs.getD (4 * k + 2) 0 := ⟨_, rfl⟩
      obtain ⟨b3, h3⟩ : ∃ x, x = bs.getD (4 * k + 3) 0 := ⟨_, rfl⟩
      have l0 : b0 < 256 := by rw [h0]; exact Sha.getD_lt (by decide) Hlt.out _
      have l1 : b1 < 256 := by rw [h1]; exact Sha.getD_lt (by decide) Hlt.out _
      have l2 : b2 < 256 := by rw [h2]; exact Sha.getD_lt (by decide) Hlt.out _
      have l3 : b3 < 256 := by rw [h3]; exact Sha.getD_lt (by decide) Hlt.out _
      have g0 : wr.cell? ⟨w.heap.size, 4 * k, none⟩ = some (.int .u8 (b0 : Nat)) := by rw [h0]; exact f1 _ _ (HVat.out _ (by omega))
      have g1 : wr.cell? ⟨w.heap.size, 4 * k + 1, none⟩ = some (.int .u8 (b1 : Nat)) := by rw [h1]; exact f1 _ _ (HVat.out _ (by omega))
      have g2 : wr.cell? ⟨w.heap.size, 4 * k + 2, none⟩ = some (.int .u8 (b2 : Nat)) := by rw [h2]; exact f1 _ _ (HVat.out _ (by omega))
      have g3 : wr.cell? ⟨w.heap.size, 4 * k + 3, none⟩ = some (.int .u8 (b3 : Nat)) := by rw [h3]; exact f1 _ _ (HVat.out _ (by omega))
      have HW : Hid (Sha.words bs (k + 1) = Sha.words bs k ++ [((b0 * 16777216 ||| b1 * 65536) ||| b2 * 256) ||| b3]) := by rw [h0, h1, h2, h3]; rfl
      have HS := Lib.hid hS
      have HL := Lib.hid hL
      clear h0 h1 h2 h3 f1 hS hL
      have hsl : ∀ W, (Instr.sliceAt 76 (.pointer (some ⟨w.heap.size, 0, none⟩)) (some (.int .i64 (4 * (k : Int)))) (some (.int .i64 (4 * (k : Int) + 4))) none).run Tryd.prog W = .ok (.slice (some ⟨w.heap.size, 4 * k, none⟩) 4 (64 - 4 * k)) W := fun W => by
        rw [slice47 _ (4 * k) (4 * k + 4) (by omega) (by omega) (by omega) _ _ (by omega) (by omega), Nat.add_sub_cancel_left]
        unfold Addr.add
        split <;> simp_all
      go_wp2
      refine wp_region_quiet_tail (fun w' => ∃ n, w' = wr.drewN n) 24 (by kernel_rfl) (by kernel_rfl) ⟨1, rfl⟩ ?_
      simp only [List.take_succ_cons, List.take_zero, List.drop_succ_cons, List.drop_zero]
      repeat (first | go_big_quiet_step (fail) | quiet_step (fail))
      refine wpQuiet_nil ?_
      rintro _ ⟨nq, rfl⟩
      go_wp2
      go_roundw
      case rel =>
        refine ⟨k + 1, by omega, by go_num, ?_⟩
        rw [HW.out, word_out _ _ _ _ l0 l1 l2 l3, show w.heap.size + 1 + 1 = w.heap.size + 2 from rfl]
        have := (HS.out.drewN nq).set (by rw [HL.out]; omega) (((b0 * 16777216 ||| b1 * 65536) ||| b2 * 256) ||| b3)
        rw [HL.out] at this
        exact this
      case measure => simp [intOf]; omega
    · obtain rfl : k = 16 := by omega
      have HX := Lib.hid (Sha.ext_lt (Sha.words bs 16) (Sha.words_lt bs (fun j => Sha.getD_lt (by decide) Hlt.out j) 16))
      clear HVat Hlt hz hb hL hlt hk
      have HS := Lib.hid hS
      clear hS
      go_wp2
      go_loopw [6] (fun i wr => ∃ m : Nat, 16 ≤ m ∧ m ≤ 64 ∧ i = .int .i64 m ∧ SchW w wr V (Sha.ext (Sha.words bs 16) (m - 16))) (fun i _ => 64 - (intOf i).toNat)
      case atStart => exact ⟨16, Nat.le_refl _, by omega, rfl, HS.out⟩
      case round =>
        obtain ⟨m, hm, hm2, rfl, hS⟩ := hrel
        have hL : (Sha.ext (Sha.words bs 16) (m - 16)).length = m := by rw [Sha.ext_len, Sha.words_len]; omega
        by_cases hlt : m < 64
        · obtain ⟨_, f2, f3, f4⟩ := hS.facts (by omega)
          rw [hL] at f2 f3 f4
          obtain ⟨x0, h0⟩ : ∃ x, x = (Sha.ext (Sha.words bs 16) (m - 16)).getD (m - 16) 0 := ⟨_, rfl⟩
          obtain ⟨x1, h1⟩ : ∃ x, x = (Sha.ext (Sha.words bs 16) (m - 16)).getD (m - 15) 0 := ⟨_, rfl⟩
          obtain ⟨x2, h2⟩ : ∃ x, x = (Sha.ext (Sha.words bs 16) (m - 16)).getD (m - 7) 0 := ⟨_, rfl⟩
          obtain ⟨x3, h3⟩ : ∃ x, x = (Sha.ext (Sha.words bs 16) (m - 16)).getD (m - 2) 0 := ⟨_, rfl⟩
          have l0 : x0 < 4294967296 := by rw [h0]; exact Sha.getD_lt (by decide) (HX.out _) _
          have l1 : x1 < 4294967296 := by rw [h1]; exact Sha.getD_lt (by decide) (HX.out _) _
          have l2 : x2 < 4294967296 := by rw [h2]; exact Sha.getD_lt (by decide) (HX.out _) _
          have l3 : x3 < 4294967296 := by rw [h3]; exact Sha.getD_lt (by decide) (HX.out _) _
          have g0 : wr.cell? ⟨w.heap.size + 1 + 1, m - 16, none⟩ = some (.int .u32 (x0 : Nat)) := by rw [h0]; exact f2 _ (by omega)
          have g1 : wr.cell? ⟨w.heap.size + 1 + 1, m - 15, none⟩ = some (.int .u32 (x1 : Nat)) := by rw [h1]; exact f2 _ (by omega)
          have g2 : wr.cell? ⟨w.heap.size + 1 + 1, m - 7, none⟩ = some (.int .u32 (x2 : Nat)) := by rw [h2]; exact f2 _ (by omega)
          have g3 : wr.cell? ⟨w.heap.size + 1 + 1, m - 2, none⟩ = some (.int .u32 (x3 : Nat)) := by rw [h3]; exact f2 _ (by omega)
          have HW : Hid (Sha.ext (Sha.words bs 16) (m + 1 - 16) = Sha.ext (Sha.words bs 16) (m - 16) ++ [((((x0 + Sha.low x1 7 18 3) % 4294967296 + x2) % 4294967296 + Sha.low x3 17 19 10) % 4294967296)]) := by
            rw [show m + 1 - 16 = (m - 16) + 1 by omega, h0, h1, h2, h3]
            show _ ++ [Sha.nxt _] = _
            unfold Sha.nxt
            rw [hL]
          have HS := Lib.hid hS
          have HL := Lib.hid hL
          clear h0 h1 h2 h3 f2 hS hL
          go_wp2
          refine wp_region_quiet_tail (fun w' => ∃ n, w' = wr.drewN n) 23 (by kernel_rfl) (by kernel_rfl) ⟨1, rfl⟩ ?_
          simp only [List.take_succ_cons, List.take_zero, List.drop_succ_cons, List.drop_zero]
          repeat (go_big_quiet_step (((go_at_call 79; first | (with_reducible exact low7 x1 _ l1 wr) | (with_reducible exact low17 x3 _ l3 wr)))))
          refine wpQuiet_nil ?_
          rintro _ ⟨nq, rfl⟩
          go_wp2
          go_roundw
          case rel =>
            refine ⟨m + 1, by omega, by omega, by go_num, ?_⟩
            have := (HS.out.drewN nq).set (by rw [HL.out]; omega) ((((x0 + Sha.low x1 7 18 3) % 4294967296 + x2) % 4294967296 + Sha.low x3 17 19 10) % 4294967296)
            rw [HL.out] at this
            rw [HW.out, show w.heap.size + 1 + 1 = w.heap.size + 2 from rfl]
            refine cast (congrArg (fun z => SchW w (World.setCell _ _ (Value.int .u32 z)) V _) ?_) this
            omega
          case measure => simp [intOf]; omega
        · obtain rfl : m = 64 := by omega
          obtain ⟨q1, q2, q3, q4, q5⟩ := hS
          have e5 : Sha.ext (Sha.words bs 16) (64 - 16) ++ List.replicate (64 - (Sha.ext (Sha.words bs 16) (64 - 16)).length) 0 = Sha.sched bs := by
            rw [hL]; simp [Sha.sched]
          rw [e5] at q5
          obtain ⟨R, hR⟩ : ∃ R, R = wordsV (Sha.sched bs) := ⟨_, rfl⟩
          have hz : R.size = 64 := by rw [hR, wordsV_size, Sha.sched_len]
          have hoc : R.all (·.oneCell') = true := by rw [hR]; exact wordsV_one _
          rw [← hR] at q5
          have HR := Lib.hid hR
          clear hR
          have Q1 := Lib.hid q1
          have Q4 := Lib.hid q4
          have Q5 := Lib.hid q5
          have HZ := Lib.hid hz
          have HO := Lib.hid hoc
          have HI : Hid ((Tryd.prog.info? 120).map (·.size) = some R.size) := by rw [hz]; exact Lib.hid (by kernel_rfl)
          clear q1 q2 q3 q4 q5 e5 hL hz hoc
          go_wp2_with (first
            | (refine wpList_load_row (by rfl) 120 (.tmp 3) (by rfl) (w.heap.size + 1 + 1) (by rfl) _ R (0, 0) _ Q5.out Tryd.underlying120 (by rfl) HI.out ?_)
            | (refine wpList_store_row (by rfl) 120 (.tmp 2) (.tmp 68) (by rfl) (w.heap.size + 1) R (by rfl) (by rfl) _ _ Q4.out HI.out (by rw [HZ.out, wordsV_size]; rfl) HO.out ?_))
          refine bodyPost_ret (v := .agg R) ?_ rfl ⟨by rw [HR.out], grown_setRow Q1.out (by omega) _⟩
          have HQ := setRow_heap _ _ _ R _ _ Q4.out
          exact results_cell_row Tryd.results75 _ _ (w.heap.size + 1) _ R (0, 0) _ rfl HQ Tryd.underlying120 rfl HI.out
end Go.Proofs.YtndgbhgalablfaaDoor
