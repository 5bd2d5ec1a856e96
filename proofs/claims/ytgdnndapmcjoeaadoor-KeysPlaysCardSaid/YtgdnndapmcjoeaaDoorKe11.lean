import Derived.Test.YtgdnndapmcjoeaaDoorKe02
import Derived.Test.YtgdnndapmcjoeaaDoorKe06
import Derived.Test.YtgdnndapmcjoeaaDoorKe10
namespace Go.Proofs.YtgdnndapmcjoeaaDoor
open Go.RowKit
/-- The world in schedule's loops: the block, the answer's place, the words that are done and noughts behind them. -/
def SchW (w wr : World) (V : Array Value) (done : List Nat) : Prop :=
  w.grownBy wr none ∧ wr.heap.size = w.heap.size + 3 ∧ wr.heap[w.heap.size]? = some (.cells V 112 (0, 0)) ∧ wr.heap[w.heap.size + 1]? = some (.cells (wordsV (List.replicate 64 0)) 147 (0, 0)) ∧
    wr.heap[w.heap.size + 2]? = some (.cells (wordsV (done ++ List.replicate (64 - done.length) 0)) 147 (0, 0))
theorem SchW.drewN {w wr : World} {V : Array Value} {d : List Nat} (h : SchW w wr V d) (n : Nat) : SchW w (wr.drewN n) V d := by
  obtain ⟨h1, h2, h3, h4, h5⟩ := h
  exact ⟨⟨h1.os, h1.tape, h1.output, h1.size, h1.block⟩, h2, h3, h4, h5⟩
theorem wordsV_set (d : List Nat) (x : Nat) (h : d.length < 64) :
    (wordsV (d ++ List.replicate (64 - d.length) 0)).setIfInBounds d.length (.int .u32 (x : Int)) = wordsV ((d ++ [x]) ++ List.replicate (64 - (d ++ [x]).length) 0) := by
  obtain ⟨m, hm⟩ : ∃ m, 64 - d.length = m + 1 := ⟨63 - d.length, by omega⟩
  have e : 64 - (d ++ [x]).length = m := by simp; omega
  rw [e, hm]
  simp [wordsV, List.replicate_succ]
theorem SchW.set {w wr : World} {V : Array Value} {d : List Nat} (h : SchW w wr V d) (hd : d.length < 64) (x : Nat) : SchW w (wr.setCell ⟨w.heap.size + 2, d.length, none⟩ (.int .u32 (x : Int))) V (d ++ [x]) := by
  obtain ⟨h1, h2, h3, h4, h5⟩ := h
  refine ⟨grown_set h1 (.inl (by show w.heap.size ≤ w.heap.size + 2; omega)) _, ?_, ?_, ?_, ?_⟩
  · simpa [World.setCell] using h2
  · rw [Below.heap_setCell _ _ _ _ (by show w.heap.size ≠ w.heap.size + 2; omega)]; exact h3
  · rw [Below.heap_setCell _ _ _ _ (by show w.heap.size + 1 ≠ w.heap.size + 2; omega)]; exact h4
  · rw [setCell_heap h5, wordsV_set d x hd]
theorem SchW.start (w : World) (V : Array Value) : SchW w (((w.alloc (.cells V 112)).alloc (.cells (wordsV (List.replicate 64 0)) 147)).alloc (.cells (wordsV (List.replicate 64 0)) 147)) V [] := by
  have e : ∀ (w : World) (o : Obj), (w.alloc o).heap = w.heap.push o := fun _ _ => rfl
  refine ⟨⟨rfl, rfl, rfl, ?_, ?_⟩, ?_, ?_, ?_, ?_⟩
  · simp [e]; omega
  · intro k hk _
    simp [e, Array.getElem?_push, show k ≠ w.heap.size + 1 + 1 by omega, show k ≠ w.heap.size + 1 by omega, show k ≠ w.heap.size by omega]
  · simp [e]
  · simp [e, Array.getElem?_push]; omega
  · simp [e, Array.getElem_push]
  · simp [e, Array.getElem_push]
theorem SchW.facts {w wr : World} {V : Array Value} {d : List Nat} (h : SchW w wr V d) (hd : d.length < 64) :
    (∀ i v, V[i]? = some v → wr.cell? ⟨w.heap.size, i, none⟩ = some v) ∧ (∀ i, i < d.length → wr.cell? ⟨w.heap.size + 1 + 1, i, none⟩ = some (.int .u32 (d.getD i 0 : Nat))) ∧
      wr.cell? ⟨w.heap.size + 1 + 1, d.length, none⟩ = some (.int .u32 0) ∧ wr.frozen? ⟨w.heap.size + 1 + 1, d.length, none⟩ = false := by
  obtain ⟨h1, h2, h3, h4, h5⟩ := h
  obtain ⟨m, hm⟩ : ∃ m, 64 - d.length = m + 1 := ⟨63 - d.length, by omega⟩
  refine ⟨fun i v hv => cell_blk h3 i hv, fun i hi => cell_blk h5 i ?_, cell_blk h5 _ ?_, free_blk h5 _⟩
  · rw [wordsV_at _ _ (by simp; omega)]
    simp [List.getElem?_append_left hi]
  · rw [hm]
    simp [wordsV, List.replicate_succ]
theorem word_out (a b c d : Nat) (ha : a < 256) (hb : b < 256) (hc : c < 256) (hd : d < 256) :
    bits .or .u32 (bits .or .u32 (bits .or .u32 (a * 16777216 : Int) (b * 65536 : Int)) (c * 256 : Int)) (d : Int) = ((((a * 16777216 ||| b * 65536) ||| c * 256) ||| d : Nat) : Int) := by
  have e1 : (a * 16777216 : Int) = ((a * 16777216 : Nat) : Int) := by simp
  have e2 : (b * 65536 : Int) = ((b * 65536 : Nat) : Int) := by simp
  have e3 : (c * 256 : Int) = ((c * 256 : Nat) : Int) := by simp
  have l1 : a * 16777216 ||| b * 65536 < 4294967296 := Nat.or_lt_two_pow (n := 32) (by omega) (by omega)
  have l2 : (a * 16777216 ||| b * 65536) ||| c * 256 < 4294967296 := Nat.or_lt_two_pow (n := 32) l1 (by omega)
  rw [e1, e2, e3, u32_or_nat _ _ (by omega) (by omega), u32_or_nat _ _ l1 (by omega), u32_or_nat _ _ l2 (by omega)]
theorem wordsV_one (ws : List Nat) : (wordsV ws).all (·.oneCell') = true := by
  simp [wordsV, Value.oneCell']
theorem slice47 (a : Addr) (l h : Nat) (hl : l ≤ h) (hl2 : l < 64) (hh : h ≤ 64) (L H : Int) (hL : L = l) (hH : H = h) (W : World) :
    (Instr.sliceAt 112 (.pointer (some a)) (some (.int .i64 L)) (some (.int .i64 H)) none).run Tryd.prog W = .ok (.slice (some (a.add l)) (h - l) (64 - l)) W := by
  have e : Tryd.prog.arrayLen 112 = 64 := by kernel_rfl
  have z : ∀ W, (sizeOf (Tryd.prog.elem 112)).run Tryd.prog W = .ok 1 W := fun W => by kernel_rfl
  rw [run_sliceAt_array_lh W 112 a (by kernel_rfl) .i64 .i64 L H (by omega) (by omega) (by rw [e]; omega), z]
  subst hL; subst hH
  have h64 : 64 ≠ l := by omega
  simp [slicedAt, e, Result.andThen, h64]
set_option maxRecDepth 100000 in
set_option maxHeartbeats 1000000 in
theorem schedule_any (bs : List Nat) (hb : bs.length = 64) (hlt : ∀ x ∈ bs, x < 256) (w : World) :
    Calls Tryd.prog 72 #[.agg (bytesV bs)] w fun e w' => e = .returned (.agg (wordsV (Sha.sched bs))) ∧ w.grownBy w' none := by
  obtain ⟨V, hV⟩ : ∃ V, V = bytesV bs := ⟨_, rfl⟩
  have hz : V.size = 64 := by rw [hV, bytesV_size, hb]
  have hVat : ∀ i, i < 64 → V[i]? = some (.int .u8 (bs.getD i 0 : Nat)) := fun i h => by rw [hV]; exact bytesV_at bs i (by omega)
  have HVat := Lib.hid hVat
  have Hlt := Lib.hid hlt
  rw [← hV]
  clear hV hVat hlt
  go_enter Tryd.func72, Tryd.ntmps72
  go_wp2
  go_loopw [7] (fun i wr => ∃ k : Nat, k ≤ 16 ∧ i = .int .i64 k ∧ SchW w wr V (Sha.words bs k)) (fun i _ => 16 - (intOf i).toNat)
  case atStart => exact ⟨0, Nat.zero_le _, rfl, SchW.start w V⟩
  case round =>
    obtain ⟨k, hk, rfl, hS⟩ := hrel
    have hL := Sha.words_len bs k
    by_cases hlt : k < 16
    · obtain ⟨f1, _, f3, f4⟩ := hS.facts (by omega)
      rw [hL] at f3 f4
      obtain ⟨b0, h0⟩ : ∃ x, x = bs.getD (4 * k) 0 := ⟨_, rfl⟩
      obtain ⟨b1, h1⟩ : ∃ x, x = bs.getD (4 * k + 1) 0 := ⟨_, rfl⟩
      obtain ⟨b2, h2⟩ : ∃ x, x = bs.getD (4 * k + 2) 0 := ⟨_, rfl⟩
      obtain ⟨b3, h3⟩ : ∃ x, x = bs.getD (4 * k + 3) 0 := ⟨_, rfl⟩
      have l0 : b0 < 256 := by rw [h0]; exact Sha.getD_lt (by decide) Hlt.out _
      have l1 : b1 < 256 := by rw [h1]; exact Sha.getD_lt (by decide) Hlt.out _
      have l2 : b2 < 256 := by rw [h2]; exact Sha.getD_lt (by decide) Hlt.out _
      have l3 : b3 < 256 := by rw [h3]; exact Sha.getD_lt (by decide) Hlt.out _
      have g0 : wr.cell? ⟨w.heap.size, 4 * k, none⟩ = some (.int .u8 (b0 : Nat)) := by rw [h0]; exact f1 _ _ (HVat.out _ (by omega))
      have g1 : wr.cell? ⟨w.heap.size, 4 * k + 1, none⟩ = some (.int .u8 (b1 : Nat)) := by rw [h1]; exact f1 _ _ (HVat.out _ (by omega))
      have g2 : wr.cell? ⟨w.heap.size, 4 * k + 2, none⟩ = some (.int .u8 (b2 : Nat)) := by rw [h2]; exact f1 _ _ (HVat.out _ (by omega))
      have g3 : wr.cell? ⟨w.heap.size, 4 * k + 3, none⟩ = some (.int .u8 (b3 : Nat)) := by rw [h3]; exact f1 _ _ (HVat.out _ (by omega))
      have HW : Hid (Sha.words bs (k + 1) = Sha.words bs k ++ [((b0 * 16777216 ||| b1 * 65536) ||| b2 * 256) ||| b3]) := by rw [h0, h1, h2, h3]; rfl
      have HS := Lib.hid hS
      have HL := Lib.hid hL
      clear h0 h1 h2 h3 f1 hS hL
      have hsl : ∀ W, (Instr.sliceAt 112 (.pointer (some ⟨w.heap.size, 0, none⟩)) (some (.int .i64 (4 * (k : Int)))) (some (.int .i64 (4 * (k : Int) + 4))) none).run Tryd.prog W = .ok (.slice (some ⟨w.heap.size, 4 * k, none⟩) 4 (64 - 4 * k)) W := fun W => by
        rw [slice47 _ (4 * k) (4 * k + 4) (by omega) (by omega) (by omega) _ _ (by omega) (by omega), Nat.add_sub_cancel_left]
        unfold Addr.add
        split <;> simp_all
      go_wp2
      refine wp_region_quiet_tail (fun w' => ∃ n, w' = wr.drewN n) 24 (by kernel_rfl) (by kernel_rfl) ⟨1, rfl⟩ ?_
      simp only [List.take_succ_cons, List.take_zero, List.drop_succ_cons, List.drop_zero]
      repeat (first | go_big_quiet_step (fail) | quiet_step (fail))
      refine wpQuiet_nil ?_
      rintro _ ⟨nq, rfl⟩
      go_wp2
      go_roundw
      case rel =>
        refine ⟨k + 1, by omega, by go_num, ?_⟩
        rw [HW.out, word_out _ _ _ _ l0 l1 l2 l3, show w.heap.size + 1 + 1 = w.heap.size + 2 from rfl]
        have := (HS.out.drewN nq).set (by rw [HL.out]; omega) (((b0 * 16777216 ||| b1 * 65536) ||| b2 * 256) ||| b3)
        rw [HL.out] at this
        exact this
      case measure => simp [intOf]; omega
    · obtain rfl : k = 16 := by omega
      have HX := Lib.hid (Sha.ext_lt (Sha.words bs 16) (Sha.words_lt bs (fun j => Sha.getD_lt (by decide) Hlt.out j) 16))
      clear HVat Hlt hz hb hL hlt hk
      have HS := Lib.hid hS
      clear hS
      go_wp2
      go_loopw [6] (fun i wr => ∃ m : Nat, 16 ≤ m ∧ m ≤ 64 ∧ i = .int .i64 m ∧ SchW w wr V (Sha.ext (Sha.words bs 16) (m - 16))) (fun i _ => 64 - (intOf i).toNat)
      case atStart => exact ⟨16, Nat.le_refl _, by omega, rfl, HS.out⟩
      case round =>
        obtain ⟨m, hm, hm2, rfl, hS⟩ := hrel
        have hL : (Sha.ext (Sha.words bs 16) (m - 16)).length = m := by rw [Sha.ext_len, Sha.words_len]; omega
        by_cases hlt : m < 64
        · obtain ⟨_, f2, f3, f4⟩ := hS.facts (by omega)
          rw [hL] at f2 f3 f4
          obtain ⟨x0, h0⟩ : ∃ x, x = (Sha.ext (Sha.words bs 16) (m - 16)).getD (m - 16) 0 := ⟨_, rfl⟩
          obtain ⟨x1, h1⟩ : ∃ x, x = (Sha.ext (Sha.words bs 16) (m - 16)).getD (m - 15) 0 := ⟨_, rfl⟩
          obtain ⟨x2, h2⟩ : ∃ x, x = (Sha.ext (Sha.words bs 16) (m - 16)).getD (m - 7) 0 := ⟨_, rfl⟩
          obtain ⟨x3, h3⟩ : ∃ x, x = (Sha.ext (Sha.words bs 16) (m - 16)).getD (m - 2) 0 := ⟨_, rfl⟩
          have l0 : x0 < 4294967296 := by rw [h0]; exact Sha.getD_lt (by decide) (HX.out _) _
          have l1 : x1 < 4294967296 := by rw [h1]; exact Sha.getD_lt (by decide) (HX.out _) _
          have l2 : x2 < 4294967296 := by rw [h2]; exact Sha.getD_lt (by decide) (HX.out _) _
          have l3 : x3 < 4294967296 := by rw [h3]; exact Sha.getD_lt (by decide) (HX.out _) _
          have g0 : wr.cell? ⟨w.heap.size + 1 + 1, m - 16, none⟩ = some (.int .u32 (x0 : Nat)) := by rw [h0]; exact f2 _ (by omega)
          have g1 : wr.cell? ⟨w.heap.size + 1 + 1, m - 15, none⟩ = some (.int .u32 (x1 : Nat)) := by rw [h1]; exact f2 _ (by omega)
          have g2 : wr.cell? ⟨w.heap.size + 1 + 1, m - 7, none⟩ = some (.int .u32 (x2 : Nat)) := by rw [h2]; exact f2 _ (by omega)
          have g3 : wr.cell? ⟨w.heap.size + 1 + 1, m - 2, none⟩ = some (.int .u32 (x3 : Nat)) := by rw [h3]; exact f2 _ (by omega)
          have HW : Hid (Sha.ext (Sha.words bs 16) (m + 1 - 16) = Sha.ext (Sha.words bs 16) (m - 16) ++ [((((x0 + Sha.low x1 7 18 3) % 4294967296 + x2) % 4294967296 + Sha.low x3 17 19 10) % 4294967296)]) := by
            rw [show m + 1 - 16 = (m - 16) + 1 by omega, h0, h1, h2, h3]
            show _ ++ [Sha.nxt _] = _
            unfold Sha.nxt
            rw [hL]
          have HS := Lib.hid hS
          have HL := Lib.hid hL
          clear h0 h1 h2 h3 f2 hS hL
          go_wp2
          refine wp_region_quiet_tail (fun w' => ∃ n, w' = wr.drewN n) 23 (by kernel_rfl) (by kernel_rfl) ⟨1, rfl⟩ ?_
          simp only [List.take_succ_cons, List.take_zero, List.drop_succ_cons, List.drop_zero]
          repeat (go_big_quiet_step (((go_at_call 75; first | (with_reducible exact low7 x1 _ l1 wr) | (with_reducible exact low17 x3 _ l3 wr)))))
          refine wpQuiet_nil ?_
          rintro _ ⟨nq, rfl⟩
          go_wp2
          go_roundw
          case rel =>
            refine ⟨m + 1, by omega, by omega, by go_num, ?_⟩
            have := (HS.out.drewN nq).set (by rw [HL.out]; omega) ((((x0 + Sha.low x1 7 18 3) % 4294967296 + x2) % 4294967296 + Sha.low x3 17 19 10) % 4294967296)
            rw [HL.out] at this
            rw [HW.out, show w.heap.size + 1 + 1 = w.heap.size + 2 from rfl]
            refine cast (congrArg (fun z => SchW w (World.setCell _ _ (Value.int .u32 z)) V _) ?_) this
            omega
          case measure => simp [intOf]; omega
        · obtain rfl : m = 64 := by omega
          obtain ⟨q1, q2, q3, q4, q5⟩ := hS
          have e5 : Sha.ext (Sha.words bs 16) (64 - 16) ++ List.replicate (64 - (Sha.ext (Sha.words bs 16) (64 - 16)).length) 0 = Sha.sched bs := by
            rw [hL]; simp [Sha.sched]
          rw [e5] at q5
          obtain ⟨R, hR⟩ : ∃ R, R = wordsV (Sha.sched bs) := ⟨_, rfl⟩
          have hz : R.size = 64 := by rw [hR, wordsV_size, Sha.sched_len]
          have hoc : R.all (·.oneCell') = true := by rw [hR]; exact wordsV_one _
          rw [← hR] at q5
          have HR := Lib.hid hR
          clear hR
          have Q1 := Lib.hid q1
          have Q4 := Lib.hid q4
          have Q5 := Lib.hid q5
          have HZ := Lib.hid hz
          have HO := Lib.hid hoc
          have HI : Hid ((Tryd.prog.info? 147).map (·.size) = some R.size) := by rw [hz]; exact Lib.hid (by kernel_rfl)
          clear q1 q2 q3 q4 q5 e5 hL hz hoc
          go_wp2_with (first
            | (refine wpList_load_row (by rfl) 147 (.tmp 3) (by rfl) (w.heap.size + 1 + 1) (by rfl) _ R (0, 0) _ Q5.out Tryd.underlying147 (by rfl) HI.out ?_)
            | (refine wpList_store_row (by rfl) 147 (.tmp 2) (.tmp 68) (by rfl) (w.heap.size + 1) R (by rfl) (by rfl) _ _ Q4.out HI.out (by rw [HZ.out, wordsV_size]; rfl) HO.out ?_))
          refine bodyPost_ret (v := .agg R) ?_ rfl ⟨by rw [HR.out], grown_setRow Q1.out (by omega) _⟩
          have HQ := setRow_heap _ _ _ R _ _ Q4.out
          exact results_cell_row Tryd.results72 _ _ (w.heap.size + 1) _ R (0, 0) _ rfl HQ Tryd.underlying147 rfl HI.out
end Go.Proofs.YtgdnndapmcjoeaaDoor
namespace Go.Proofs.YtgdnndapmcjoeaaDoor
open Go.RowKit
/-- What sha's two variables hold. -/
structure Laid (w : World) : Prop where
  size : 29 < w.heap.size
  start : w.rangeAt 28 0 (stV Sha.first).toList
  rounds : ∀ i, i < 64 → w.cell? ⟨29, i, none⟩ = some (.int .u32 (Sha.ks.getD i 0 : Nat))
theorem Laid.grown {w w' : World} {row : Option Nat} (h : Laid w) (hg : w.grownBy w' row) (h0 : some 28 ≠ row) (h1 : some 29 ≠ row) : Laid w' :=
  ⟨Nat.lt_of_lt_of_le h.size hg.size, range_grown hg h.start (by have := h.size; omega) h0, fun i hi => by
    rw [World.cell?_of_block (hg.block 29 h.size h1)]; exact h.rounds i hi⟩
def hsL (s : Sha.HS) : List Value := (stV s.words).toList ++ ([.int .i64 (s.blocks : Int)] ++ ((bytesV s.bytes).toList ++ [.int .i64 (s.filled : Int)]))
/-- Block b is that hash. -/
def IsHash (w : World) (b : Nat) (s : Sha.HS) : Prop := w.heap[b]? = some (.cells (hsL s).toArray 142 (0, 0))
theorem IsHash.words {w : World} {b : Nat} {s : Sha.HS} (h : IsHash w b s) : w.rangeAt b 0 (stV s.words).toList := range_blk (pre := []) h
theorem IsHash.blocks {w : World} {b : Nat} {s : Sha.HS} (h : IsHash w b s) : w.cell? ⟨b, 8, none⟩ = some (.int .i64 (s.blocks : Int)) := cell_blk h 8 rfl
theorem IsHash.free {w : World} {b : Nat} {s : Sha.HS} (h : IsHash w b s) (i : Nat) : w.frozen? ⟨b, i, none⟩ = false := free_blk h i
theorem IsHash.lt {w : World} {b : Nat} {s : Sha.HS} (h : IsHash w b s) : b < w.heap.size := blk_lt h
theorem IsHash.grown {w w' : World} {b : Nat} {s : Sha.HS} {row : Option Nat} (h : IsHash w b s) (hg : w.grownBy w' row) (hne : some b ≠ row) : IsHash w' b s := (hg.block b h.lt hne).trans h
theorem hsL_len {s : Sha.HS} (h : s.ok) : (hsL s).length = 74 := by simp [hsL, stV, bytesV, h.len]
theorem IsHash.there {w : World} {b : Nat} {s : Sha.HS} (h : IsHash w b s) (hs : s.ok) (o n : Nat) (hn : o + n ≤ 74) : w.there b o n := there_blk h o n (by simp [hsL_len hs, hn])
theorem IsHash.setWords {w : World} {b : Nat} {s : Sha.HS} (h : IsHash w b s) (r : Sha.St) : IsHash (w.setCells b 0 (stV r).toList) b { s with words := r } :=
  setCells_heap (pre := []) (stV r).toList (stV s.words).toList _ w h rfl
theorem IsHash.setBlocks {w : World} {b : Nat} {s : Sha.HS} (h : IsHash w b s) (n : Nat) : IsHash (w.setCell ⟨b, 8, none⟩ (.int .i64 (n : Int))) b { s with blocks := n } := by
  have := setCells_heap [.int .i64 (n : Int)] (stV s.words).toList [.int .i64 (s.blocks : Int)] ((bytesV s.bytes).toList ++ [.int .i64 (s.filled : Int)]) w (by rw [List.append_assoc]; exact h) rfl
  rw [List.append_assoc] at this
  exact this
theorem stV_one (s : Sha.St) : (stV s).all (·.oneCell') = true := by simp [stV, Value.oneCell']
/-- What comes by allocation alone. -/
def Grows (W : World) : World → Prop := fun w' => W.grownBy w' none
theorem Grows.drew (W : World) : Grows W { W with drawn := W.drawn + 1 } := ⟨rfl, rfl, rfl, Nat.le_refl _, fun _ _ _ => rfl⟩
/-- The world where mix's two ways meet. -/
structure MixF' (w W : World) (b : Nat) (s : Sha.HS) : Prop where
  grown : w.grownBy W (some b)
  hash : IsHash W b s
  laid : Laid W
structure MixF (w W : World) (b : Nat) (s : Sha.HS) (V : Array Value) : Prop extends MixF' w W b s where
  size : W.heap.size = w.heap.size + 1
  blk : W.heap[w.heap.size]? = some (.cells V 112 (0, 0))
theorem MixF.start {w : World} {b : Nat} {s : Sha.HS} (V : Array Value) (h : IsHash w b s) (hL : Laid w) : MixF w (w.alloc (.cells V 112)) b s V :=
  ⟨⟨World.grownBy_alloc _ _ _, h.grown (World.grownBy_alloc _ _ none) (by simp), hL.grown (World.grownBy_alloc _ _ none) (by simp) (by simp)⟩, alloc_size _ _, alloc_at _ _⟩
theorem MixF'.words {w W : World} {b : Nat} {s : Sha.HS} (h : MixF' w W b s) (hb : 29 < b) (r : Sha.St) : MixF' w (W.setCells b 0 (stV r).toList) b { s with words := r } :=
  have g := grown_setCells (row := some b) b (.inr rfl) (stV r).toList 0 _ h.grown
  have g' := grown_setCells (row := some b) b (.inr rfl) (stV r).toList 0 _ (grown_refl W (some b))
  ⟨g, h.hash.setWords r, h.laid.grown g' (by simp; omega) (by simp; omega)⟩
theorem MixF.words {w W : World} {b : Nat} {s : Sha.HS} {V : Array Value} (h : MixF w W b s V) (hb : 29 < b) (hbl : b < w.heap.size) (r : Sha.St) : MixF w (W.setCells b 0 (stV r).toList) b { s with words := r } V :=
  ⟨h.toMixF'.words hb r, by rw [setCells_size]; exact h.size, by rw [setCells_other (by omega)]; exact h.blk⟩
theorem MixF'.grows {w W W' : World} {b : Nat} {s : Sha.HS} (h : MixF' w W b s) (hg : Grows W W') : MixF' w W' b s :=
  ⟨grown_trans h.grown (grown_any hg), h.hash.grown hg (by simp), h.laid.grown hg (by simp) (by simp)⟩
theorem MixF'.blocks {w W : World} {b : Nat} {s : Sha.HS} (h : MixF' w W b s) (n : Nat) : w.grownBy (W.setCell ⟨b, 8, none⟩ (.int .i64 (n : Int))) (some b) ∧ IsHash (W.setCell ⟨b, 8, none⟩ (.int .i64 (n : Int))) b { s with blocks := n } :=
  ⟨grown_set h.grown (.inr rfl) _, h.hash.setBlocks n⟩
set_option maxRecDepth 100000 in
set_option maxHeartbeats 1000000 in
theorem mix_any (s : Sha.HS) (bs : List Nat) (hs : s.ok) (hb : bs.length = 64) (hlt : ∀ x ∈ bs, x < 256) (b : Nat) (w : World) (hH : IsHash w b s) (hb2 : 29 < b) (hL : Laid w) :
    Calls Tryd.prog 68 #[.pointer (some ⟨b, 0, none⟩), .agg (bytesV bs)] w fun e w' => e = .returned (.tuple #[]) ∧ w.grownBy w' (some b) ∧ IsHash w' b (s.mix bs) := by
  obtain ⟨V, hV⟩ : ∃ V, V = bytesV bs := ⟨_, rfl⟩
  rw [← hV]
  have c8 := hH.blocks
  have hbl := hH.lt
  have i49 : Hid ((Tryd.prog.info? 136).map (·.size) = some 8) := Lib.hid (by kernel_rfl)
  have i47 : Hid ((Tryd.prog.info? 112).map (·.size) = some 64) := Lib.hid (by kernel_rfl)
  have F0 := Lib.hid (MixF.start V hH hL)
  have Hbase := Lib.hid (Sha.HS.base_ok hs)
  have Hs := Lib.hid hs
  have HV := Lib.hid hV
  have Hs' : Hid (Sha.HS.ok { s with words := s.base }) := Lib.hid ⟨Sha.HS.base_ok hs, hs.len, hs.lt, hs.filled, hs.blocks⟩
  have Hlt := Lib.hid hlt
  clear hV hH hL hs hlt
  by_cases h0 : s.blocks = 0
  · rw [h0] at c8
    have H0 := Lib.hid h0
    clear h0
    go_enter Tryd.func68, Tryd.ntmps68
    go_wp2_with (first
      | (refine wpList_load_mid (by rfl) 136 (.global 28) (by rfl) 28 0 (by rfl) (stV Sha.first).toList _ F0.out.laid.start Tryd.underlying136 (by rfl) i49.out ?_)
      | (refine wpList_store_mid (by rfl) 136 (.tmp 12) (.tmp 10) (by rfl) b 0 (stV Sha.first) (by rfl) (by rfl) (F0.out.hash.there Hs.out 0 _ (by simp [stV])) i49.out (stV_one _) ?_))
    have F1 := F0.out.words hb2 hbl Sha.first
    generalize World.setCells (w.alloc (Obj.cells V 112)) b 0 (stV Sha.first).toList = W2 at F1 ⊢
    have e : ({ s with words := Sha.first } : Sha.HS) = { s with words := s.base } := by simp [Sha.HS.base, H0.out]
    rw [e] at F1
    have F2 := Lib.hid F1
    clear F0 F1 e
    simp only [Act.put]
    refine wp_region_quiet_tail (Grows W2) 10 (by kernel_rfl) (by kernel_rfl) (Grows.drew W2) ?_
    simp only [List.take_succ_cons, List.take_zero, List.drop_succ_cons, List.drop_zero]
    iterate 4 (go_big_quiet_step ((exact fun _ => rfl)))
    refine wpQuiet_load_mid (by rfl) 136 (.tmp 16) (by rfl) b 0 (by rfl) (stV s.base).toList _ (fun w' hw' => range_grown hw' F2.out.hash.words F2.out.hash.lt (by simp)) Tryd.underlying136 (by rfl) i49.out ?_
    refine wpQuiet_load_mid (by rfl) 112 (.tmp 3) (by rfl) w.heap.size 0 (by rfl) (bytesV bs).toList _ (fun w' hw' => range_grown hw' (HV.out ▸ range_all F2.out.blk) (by have := F2.out.size; omega) (by simp)) Tryd.underlying112 (by rfl) (by rw [i47.out, Array.length_toList, bytesV_size, hb]) ?_
    refine wpQuiet_call (by rfl) 72 #[.agg (bytesV bs)] (.agg (wordsV (Sha.sched bs))) (fun _ => by simp [go_sem, Act.put]) (fun w' hw' => (schedule_any bs hb Hlt.out w').mono fun e w'' ⟨h1, h2⟩ => ⟨h1, grown_trans hw' h2⟩) ?_
    refine wpQuiet_call (by rfl) 71 #[.agg (stV s.base), .agg (wordsV (Sha.sched bs))] (.agg (stV (Sha.comp s.base bs))) (fun _ => by simp [go_sem, Act.put]) (fun w' hw' => (compress_any s.base Sha.ks (Sha.sched bs) Hbase.out (Sha.sched_len bs) w' (F2.out.laid.grown hw' (by simp) (by simp)).size (F2.out.laid.grown hw' (by simp) (by simp)).rounds).mono fun e w'' ⟨h1, h2⟩ => ⟨h1, grown_trans hw' h2⟩) ?_
    iterate 2 (refine wpQuiet_same (by rfl) (.pointer (some ⟨b, 0, none⟩)) (fun _ _ => by simp [go_sem, Act.put]) ?_)
    simp only [Act.put, List.setIfInBounds_toArray, List.set_cons_succ, List.set_cons_zero, Array.toArray_toList]
    refine wpQuiet_nil ?_
    intro W3 hW3
    clear i49 i47
    refine wpList_store_mid (by rfl) 136 (.tmp 22) (.tmp 20) (by rfl) b 0 (stV (Sha.comp s.base bs)) (by rfl) (by rfl) ((F2.out.hash.grown hW3 (by simp)).there Hs'.out 0 _ (by simp [stV])) (by kernel_rfl) (stV_one _) ?_
    have F3 := F2.out.toMixF'.grows hW3
    have F4 := F3.words hb2 (Sha.comp s.base bs)
    generalize World.setCells W3 b 0 (stV (Sha.comp s.base bs)).toList = W4 at F4 ⊢
    have d8 : W4.cell? ⟨b, 8, none⟩ = some (.int .i64 (s.blocks : Int)) := F4.hash.blocks
    have d8' : W4.frozen? ⟨b, 8, none⟩ = false := F4.hash.free 8
    have hbk : s.blocks < 1152921504606846976 := Hs.out.blocks
    have F5 := Lib.hid F4
    clear F3 F4 hW3 F2
    simp only [Act.put]
    go_wp2
    go_end0
    exact ⟨rfl, (F5.out.blocks (s.blocks + 1)).1, (F5.out.blocks (s.blocks + 1)).2⟩
  · have hn : ((s.blocks : Int) == 0) = false := beq_eq_false_iff_ne.2 (by omega)
    have H0 := Lib.hid h0
    clear h0
    go_enter Tryd.func68, Tryd.ntmps68
    go_wp2
    have F1 := F0.out
    generalize World.alloc w (Obj.cells V 112) = W2 at F1 ⊢
    have e : s = { s with words := s.base } := by simp [Sha.HS.base, H0.out]
    have F1 : MixF w W2 b { s with words := s.base } V := by rw [← e]; exact F1
    clear hn e
    have F2 := Lib.hid F1
    clear F0 F1
    refine wp_region_quiet_tail (Grows W2) 10 (by kernel_rfl) (by kernel_rfl) (Grows.drew W2) ?_
    simp only [List.take_succ_cons, List.take_zero, List.drop_succ_cons, List.drop_zero]
    iterate 4 (go_big_quiet_step ((exact fun _ => rfl)))
    refine wpQuiet_load_mid (by rfl) 136 (.tmp 16) (by rfl) b 0 (by rfl) (stV s.base).toList _ (fun w' hw' => range_grown hw' F2.out.hash.words F2.out.hash.lt (by simp)) Tryd.underlying136 (by rfl) i49.out ?_
    refine wpQuiet_load_mid (by rfl) 112 (.tmp 3) (by rfl) w.heap.size 0 (by rfl) (bytesV bs).toList _ (fun w' hw' => range_grown hw' (HV.out ▸ range_all F2.out.blk) (by have := F2.out.size; omega) (by simp)) Tryd.underlying112 (by rfl) (by rw [i47.out, Array.length_toList, bytesV_size, hb]) ?_
    refine wpQuiet_call (by rfl) 72 #[.agg (bytesV bs)] (.agg (wordsV (Sha.sched bs))) (fun _ => by simp [go_sem, Act.put]) (fun w' hw' => (schedule_any bs hb Hlt.out w').mono fun e w'' ⟨h1, h2⟩ => ⟨h1, grown_trans hw' h2⟩) ?_
    refine wpQuiet_call (by rfl) 71 #[.agg (stV s.base), .agg (wordsV (Sha.sched bs))] (.agg (stV (Sha.comp s.base bs))) (fun _ => by simp [go_sem, Act.put]) (fun w' hw' => (compress_any s.base Sha.ks (Sha.sched bs) Hbase.out (Sha.sched_len bs) w' (F2.out.laid.grown hw' (by simp) (by simp)).size (F2.out.laid.grown hw' (by simp) (by simp)).rounds).mono fun e w'' ⟨h1, h2⟩ => ⟨h1, grown_trans hw' h2⟩) ?_
    iterate 2 (refine wpQuiet_same (by rfl) (.pointer (some ⟨b, 0, none⟩)) (fun _ _ => by simp [go_sem, Act.put]) ?_)
    simp only [Act.put, List.setIfInBounds_toArray, List.set_cons_succ, List.set_cons_zero, Array.toArray_toList]
    refine wpQuiet_nil ?_
    intro W3 hW3
    clear i49 i47
    refine wpList_store_mid (by rfl) 136 (.tmp 22) (.tmp 20) (by rfl) b 0 (stV (Sha.comp s.base bs)) (by rfl) (by rfl) ((F2.out.hash.grown hW3 (by simp)).there Hs'.out 0 _ (by simp [stV])) (by kernel_rfl) (stV_one _) ?_
    have F3 := F2.out.toMixF'.grows hW3
    have F4 := F3.words hb2 (Sha.comp s.base bs)
    generalize World.setCells W3 b 0 (stV (Sha.comp s.base bs)).toList = W4 at F4 ⊢
    have d8 : W4.cell? ⟨b, 8, none⟩ = some (.int .i64 (s.blocks : Int)) := F4.hash.blocks
    have d8' : W4.frozen? ⟨b, 8, none⟩ = false := F4.hash.free 8
    have hbk : s.blocks < 1152921504606846976 := Hs.out.blocks
    have F5 := Lib.hid F4
    clear F3 F4 hW3 F2
    simp only [Act.put]
    go_wp2
    go_end0
    exact ⟨rfl, (F5.out.blocks (s.blocks + 1)).1, (F5.out.blocks (s.blocks + 1)).2⟩
end Go.Proofs.YtgdnndapmcjoeaaDoor
