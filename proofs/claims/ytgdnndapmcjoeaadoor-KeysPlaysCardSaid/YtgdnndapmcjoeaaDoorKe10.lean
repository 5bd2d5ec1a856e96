import Derived.Test.YtgdnndapmcjoeaaDoorKe00
import Derived.Test.YtgdnndapmcjoeaaDoorKe01
import Derived.Test.YtgdnndapmcjoeaaDoorRows
import Derived.WalkKit
import Derived.WalkSpells
import Derived.WalkLawsBesides
import Derived.Deep.QuietTactic
import Derived.BigQuiet
import Derived.Lib.Hide
import Derived.LoopTactic
import Derived.Deep.DeepCutAuto
namespace Go.Proofs.YtgdnndapmcjoeaaDoor
open Go.RowKit
theorem rot_count (k : Nat) (h0 : 0 < k) (h1 : k < 32) : bits .and .u64 (IntKind.u64.wrap (-(k : Int))) 31 = ((32 - k : Nat) : Int) := by
  have : ∀ k : Fin 32, 0 < k.val → bits .and .u64 (IntKind.u64.wrap (-(k.val : Int))) 31 = ((32 - k.val : Nat) : Int) := by decide +kernel
  exact this ⟨k, h1⟩ h0
theorem rot_out (x k s : Nat) (hx : x < 4294967296) (hk : 0 < k) (hk2 : k < 32) (hs : s = 32 - k) :
    bits .or .u32 ((x : Int) * 2 ^ s % 4294967296) ((x : Int) / 2 ^ (32 - s)) = ((Sha.rotr x k : Nat) : Int) := by
  have e1 : (x : Int) * 2 ^ s % 4294967296 = ((x * 2 ^ s % 4294967296 : Nat) : Int) := by simp
  have e2 : (x : Int) / 2 ^ (32 - s) = ((x / 2 ^ (32 - s) : Nat) : Int) := by simp
  rw [e1, e2, u32_or_nat _ _ (Nat.mod_lt _ (by decide)) (Sha.div_lt _ _ hx)]
  have : 32 - s = k := by omega
  rw [this, hs]; rfl
set_option maxHeartbeats 400000 in
theorem rot_any (x k : Nat) (hx2 : x < 4294967296) (hk : 0 < k) (hk2 : k < 32) (w : World) :
    Calls Tryd.prog 76 #[.int .u32 x, .int .i64 (-(k : Int))] w fun e w' => e = .returned (.int .u32 (Sha.rotr x k)) ∧ w = w' := by
  have hb := rot_count k hk hk2
  obtain ⟨s, hs⟩ : ∃ s, s = 32 - k := ⟨_, rfl⟩
  rw [← hs] at hb
  have s1 : s < 32 := by omega
  have s2 : 0 < s := by omega
  have Hs := Lib.hid hs
  clear hs
  go_enter Tryd.func76, Tryd.ntmps76
  go_wp2
  go_ret
  exact ⟨ret_int (rot_out x k s hx2 hk hk2 Hs.out), rfl⟩
theorem high_out (x i j k : Nat) (hx : x < 4294967296) :
    bits .xor .u32 (bits .xor .u32 (Sha.rotr x i) (Sha.rotr x j)) (Sha.rotr x k) = ((Sha.high x i j k : Nat) : Int) := by
  rw [u32_xor_nat _ _ (Sha.rotr_lt _ _ hx) (Sha.rotr_lt _ _ hx), u32_xor_nat _ _ (Sha.xor_lt (Sha.rotr_lt _ _ hx) (Sha.rotr_lt _ _ hx)) (Sha.rotr_lt _ _ hx)]; rfl
set_option maxHeartbeats 400000 in
theorem high_any (x i j k : Nat) (hx2 : x < 4294967296) (hi : 0 < i) (hi2 : i < 32) (hj : 0 < j) (hj2 : j < 32) (hk : 0 < k) (hk2 : k < 32) (w : World) :
    Calls Tryd.prog 74 #[.int .u32 x, .int .i64 i, .int .i64 j, .int .i64 k] w fun e w' => e = .returned (.int .u32 (Sha.high x i j k)) ∧ w = w' := by
  go_enter Tryd.func74, Tryd.ntmps74
  go_wp2_with (go_at_call 76; refine (rot_any x _ hx2 (by omega) (by omega) _).mono ?_; rintro e w' ⟨rfl, rfl⟩)
  go_ret
  exact ⟨ret_int (high_out x i j k hx2), rfl⟩
theorem low_out (x i j k : Nat) (hx : x < 4294967296) :
    bits .xor .u32 (bits .xor .u32 (Sha.rotr x i) (Sha.rotr x j)) ((x : Int) / 2 ^ k) = ((Sha.low x i j k : Nat) : Int) := by
  rw [show (x : Int) / 2 ^ k = ((x / 2 ^ k : Nat) : Int) from by simp, u32_xor_nat _ _ (Sha.rotr_lt _ _ hx) (Sha.rotr_lt _ _ hx), u32_xor_nat _ _ (Sha.xor_lt (Sha.rotr_lt _ _ hx) (Sha.rotr_lt _ _ hx)) (Sha.div_lt _ _ hx)]; rfl
set_option maxHeartbeats 400000 in
theorem low_any (x i j k : Nat) (hx2 : x < 4294967296) (hi : 0 < i) (hi2 : i < 32) (hj : 0 < j) (hj2 : j < 32) (hk : 0 < k) (hk2 : k < 32) (w : World) :
    Calls Tryd.prog 75 #[.int .u32 x, .int .i64 i, .int .i64 j, .int .i64 k] w fun e w' => e = .returned (.int .u32 (Sha.low x i j k)) ∧ ∃ n, w' = w.drewN n := by
  go_enter Tryd.func75, Tryd.ntmps75
  go_wp2
  go_quiet ((go_at_call 76; exact Calls.quiet_of_same ((rot_any x _ hx2 (by omega) (by omega) _).mono fun e w' ⟨h1, h2⟩ => ⟨h1, h2.symm⟩)))
  go_wp2
  go_ret
  exact ⟨ret_int (low_out x i j k hx2), _, rfl⟩
theorem low7 (x m : Nat) (hx : x < 4294967296) (w : World) : Calls Tryd.prog 75 #[.int .u32 x, .int .i64 7, .int .i64 18, .int .i64 3] (w.drewN m) fun e w' => e = .returned (.int .u32 (Sha.low x 7 18 3)) ∧ ∃ n, w' = w.drewN n :=
  (low_any x 7 18 3 hx (by omega) (by omega) (by omega) (by omega) (by omega) (by omega) (w.drewN m)).mono fun _ _ ⟨h1, n, h2⟩ => ⟨h1, m + n, h2.trans (World.drewN_drewN _ _ _)⟩
theorem low17 (x m : Nat) (hx : x < 4294967296) (w : World) : Calls Tryd.prog 75 #[.int .u32 x, .int .i64 17, .int .i64 19, .int .i64 10] (w.drewN m) fun e w' => e = .returned (.int .u32 (Sha.low x 17 19 10)) ∧ ∃ n, w' = w.drewN n :=
  (low_any x 17 19 10 hx (by omega) (by omega) (by omega) (by omega) (by omega) (by omega) (w.drewN m)).mono fun _ _ ⟨h1, n, h2⟩ => ⟨h1, m + n, h2.trans (World.drewN_drewN _ _ _)⟩
end Go.Proofs.YtgdnndapmcjoeaaDoor
namespace Go.Proofs.YtgdnndapmcjoeaaDoor
open Go.RowKit
def wordsV (ws : List Nat) : Array Value := (ws.map fun (x : Nat) => Value.int .u32 (x : Int)).toArray
theorem wordsV_at (ws : List Nat) (i : Nat) (h : i < ws.length) : (wordsV ws)[i]? = some (.int .u32 (ws.getD i 0 : Nat)) := by
  simp [wordsV, h]
theorem wordsV_size (ws : List Nat) : (wordsV ws).size = ws.length := by simp [wordsV]
def stV (s : Sha.St) : Array Value := #[.int .u32 s.a, .int .u32 s.b, .int .u32 s.c, .int .u32 s.d, .int .u32 s.e, .int .u32 s.f, .int .u32 s.g, .int .u32 s.h]
theorem ch_out (e f g : Nat) (he : e < 4294967296) (hf : f < 4294967296) (hg : g < 4294967296) :
    bits .xor .u32 (bits .and .u32 e f) (bits .and .u32 (bits .xor .u32 4294967295 e) g) = ((Sha.ch e f g : Nat) : Int) := by
  have h1 : bits .xor .u32 (4294967295 : Int) (e : Int) = ((4294967295 - e : Nat) : Int) := by
    have := u32_xor_nat 4294967295 e (by decide) he
    rw [Sha.xor_max e he] at this; exact this
  rw [h1, u32_and_nat _ _ he hf, u32_and_nat _ _ (by omega) hg, u32_xor_nat _ _ (Sha.and_lt he) (Sha.and_lt (by omega))]
  rfl
theorem maj_out (a b c : Nat) (ha : a < 4294967296) (hb : b < 4294967296) (hc : c < 4294967296) :
    bits .xor .u32 (bits .xor .u32 (bits .and .u32 a b) (bits .and .u32 a c)) (bits .and .u32 b c) = ((Sha.maj a b c : Nat) : Int) := by
  rw [u32_and_nat _ _ ha hb, u32_and_nat _ _ ha hc, u32_and_nat _ _ hb hc, u32_xor_nat _ _ (Sha.and_lt ha) (Sha.and_lt ha),
    u32_xor_nat _ _ (Sha.xor_lt (Sha.and_lt ha) (Sha.and_lt ha)) (Sha.and_lt hb)]
  rfl
/-- The world behind compress's first three blocks. -/
def CmpW (w wr : World) (s : Sha.St) (V : Array Value) (o : Array Value) : Prop :=
  w.grownBy wr none ∧ wr.heap.size = w.heap.size + 3 ∧ wr.heap[w.heap.size]? = some (.cells (stV s) 136 (0, 0)) ∧ wr.heap[w.heap.size + 1]? = some (.cells V 147 (0, 0)) ∧
    wr.heap[w.heap.size + 2]? = some (.cells o 136 (0, 0))
theorem CmpW.drewN {w wr : World} {s : Sha.St} {V o : Array Value} (h : CmpW w wr s V o) (n : Nat) : CmpW w (wr.drewN n) s V o := by
  obtain ⟨h1, h2, h3, h4, h5⟩ := h
  exact ⟨⟨h1.os, h1.tape, h1.output, h1.size, h1.block⟩, h2, h3, h4, h5⟩
theorem CmpW.start (w : World) (s : Sha.St) (V o : Array Value) : CmpW w (((w.alloc (.cells (stV s) 136)).alloc (.cells V 147)).alloc (.cells o 136)) s V o := by
  have e : ∀ (w : World) (o : Obj), (w.alloc o).heap = w.heap.push o := fun _ _ => rfl
  refine ⟨⟨rfl, rfl, rfl, ?_, ?_⟩, ?_, ?_, ?_, ?_⟩
  · simp [e]; omega
  · intro k hk _
    simp [e, Array.getElem?_push, show k ≠ w.heap.size + 1 + 1 by omega, show k ≠ w.heap.size + 1 by omega, show k ≠ w.heap.size by omega]
  · simp [e]
  · simp [e, Array.getElem?_push]; omega
  · simp [e, Array.getElem_push]
  · simp [e, Array.getElem_push]
theorem maskE : (if IntKind.u32.signed = true then (-1 : Int) else IntKind.u32.max) = 4294967295 := by decide
set_option maxRecDepth 100000 in
set_option maxHeartbeats 1000000 in
theorem compress_any (s : Sha.St) (ks ws : List Nat) (hs : s.ok) (hw : ws.length = 64) (w : World) (_hg : 29 < w.heap.size) (hk : ∀ i, i < 64 → w.cell? ⟨29, i, none⟩ = some (.int .u32 (ks.getD i 0 : Nat))) :
    Calls Tryd.prog 71 #[.agg (stV s), .agg (wordsV ws)] w fun e w' => e = .returned (.agg (stV (s.add (s.run ks ws 64)))) ∧ w.grownBy w' none := by
  obtain ⟨V, hV⟩ : ∃ V, V = wordsV ws := ⟨_, rfl⟩
  have hz : V.size = 64 := by rw [hV, wordsV_size, hw]
  have hVat : ∀ i, i < 64 → V[i]? = some (.int .u32 (ws.getD i 0 : Nat)) := fun i h => by rw [hV]; exact wordsV_at ws i (by omega)
  have HVat := Lib.hid hVat
  have Hk := Lib.hid hk
  have Hs := Lib.hid hs
  have HC := Lib.hid (CmpW.start w s V)
  rw [← hV]
  clear hV hVat hk hs
  unfold stV at HC
  rw [show (Value.agg (stV s)) = .agg #[.int .u32 s.a, .int .u32 s.b, .int .u32 s.c, .int .u32 s.d, .int .u32 s.e, .int .u32 s.f, .int .u32 s.g, .int .u32 s.h] from rfl]
  go_enter Tryd.func71, Tryd.ntmps71
  go_wp2
  go_quiet (fail)
  go_wp2
  go_quiet (fail)
  go_wp2
  go_loopw [5, 6, 7, 8, 9, 10, 11, 12, 32] (fun a b c d e f g h i wr => ∃ k : Nat, k ≤ 64 ∧ i = .int .i64 k ∧
      a = .int .u32 (s.run ks ws k).a ∧ b = .int .u32 (s.run ks ws k).b ∧ c = .int .u32 (s.run ks ws k).c ∧ d = .int .u32 (s.run ks ws k).d ∧
      e = .int .u32 (s.run ks ws k).e ∧ f = .int .u32 (s.run ks ws k).f ∧ g = .int .u32 (s.run ks ws k).g ∧ h = .int .u32 (s.run ks ws k).h ∧
      CmpW w wr s V (stV ⟨0, 0, 0, 0, 0, 0, 0, 0⟩)) (fun _ _ _ _ _ _ _ _ i _ => 64 - (intOf i).toNat)
  case atStart => exact ⟨0, Nat.zero_le _, rfl, rfl, rfl, rfl, rfl, rfl, rfl, rfl, rfl, ((CmpW.start w s V _).drewN _).drewN _⟩
  case round =>
    obtain ⟨k, hk, rfl, rfl, rfl, rfl, rfl, rfl, rfl, rfl, rfl, hC⟩ := hrel
    have hok := Sha.St.run_ok (ks := ks) (ws := ws) Hs.out k
    by_cases hlt : k < 64
    · obtain ⟨q1, q2, q3, q4, q5⟩ := hC
      obtain ⟨kk, hkk⟩ : ∃ x, x = ks.getD k 0 := ⟨_, rfl⟩
      obtain ⟨ww, hww⟩ : ∃ x, x = ws.getD k 0 := ⟨_, rfl⟩
      have hkc : wr.cell? ⟨29, k, none⟩ = some (.int .u32 (kk : Nat)) := by rw [hkk]; exact q1.cell (Hk.out k hlt) (by simp)
      have hvc : wr.cell? ⟨w.heap.size + 1, k, none⟩ = some (.int .u32 (ww : Nat)) := by rw [hww]; exact cell_blk q4 k (HVat.out k hlt)
      have HC2 := Lib.hid (show CmpW w wr s V _ from ⟨q1, q2, q3, q4, q5⟩)
      clear q1 q2 q3 q4 q5
      obtain ⟨r, hr⟩ : ∃ r, r = s.run ks ws k := ⟨_, rfl⟩
      rw [← hr] at hok ⊢
      have Hr : Hid (s.run ks ws (k + 1) = r.step kk ww) := by rw [hr, hkk, hww]; rfl
      clear hr hkk hww
      have Hok := Lib.hid hok
      obtain ⟨b1, b2, b3, b4, b5, b6, b7, b8⟩ := hok
      go_wp2
      go_quiet ((go_at_call 74; exact Calls.quiet_of_same ((high_any _ 6 11 25 (by omega) (by omega) (by omega) (by omega) (by omega) (by omega) (by omega) _).mono fun e w' ⟨h1, h2⟩ => ⟨h1, h2.symm⟩)))
      go_wp2_with (go_at_call 74; refine (high_any _ 2 13 22 (by omega) (by omega) (by omega) (by omega) (by omega) (by omega) (by omega) _).mono ?_; rintro e w' ⟨rfl, rfl⟩)
      go_roundw
      case rel =>
        refine ⟨k + 1, by omega, by go_num, ?_, ?_, ?_, ?_, ?_, ?_, ?_, ?_, HC2.out.drewN _⟩
        · rw [Hr.out, maskE, ch_out _ _ _ b5 b6 b7, maj_out _ _ _ b1 b2 b3]
          refine congrArg (Value.int .u32) ?_
          simp only [Sha.St.step, Sha.t1, Sha.t2]
          omega
        · rw [Hr.out]; rfl
        · rw [Hr.out]; rfl
        · rw [Hr.out]; rfl
        · rw [Hr.out, maskE, ch_out _ _ _ b5 b6 b7]
          refine congrArg (Value.int .u32) ?_
          simp only [Sha.St.step, Sha.t1, Sha.t2]
          omega
        · rw [Hr.out]; rfl
        · rw [Hr.out]; rfl
        · rw [Hr.out]; rfl
      case measure => simp [intOf]; omega
    · obtain rfl : k = 64 := by omega
      obtain ⟨q1, q2, q3, q4, q5⟩ := hC
      unfold stV at q3 q5
      obtain ⟨r, hr⟩ : ∃ r, r = s.run ks ws 64 := ⟨_, rfl⟩
      rw [← hr] at hok ⊢
      have c0 : wr.cell? ⟨w.heap.size, 0, none⟩ = some (.int .u32 s.a) := cell_blk q3 0 rfl
      have c1 : wr.cell? ⟨w.heap.size, 1, none⟩ = some (.int .u32 s.b) := cell_blk q3 1 rfl
      have c2 : wr.cell? ⟨w.heap.size, 2, none⟩ = some (.int .u32 s.c) := cell_blk q3 2 rfl
      have c3 : wr.cell? ⟨w.heap.size, 3, none⟩ = some (.int .u32 s.d) := cell_blk q3 3 rfl
      have c4 : wr.cell? ⟨w.heap.size, 4, none⟩ = some (.int .u32 s.e) := cell_blk q3 4 rfl
      have c5 : wr.cell? ⟨w.heap.size, 5, none⟩ = some (.int .u32 s.f) := cell_blk q3 5 rfl
      have c6 : wr.cell? ⟨w.heap.size, 6, none⟩ = some (.int .u32 s.g) := cell_blk q3 6 rfl
      have c7 : wr.cell? ⟨w.heap.size, 7, none⟩ = some (.int .u32 s.h) := cell_blk q3 7 rfl
      have d0 : wr.cell? ⟨w.heap.size + 1 + 1, 0, none⟩ = some (.int .u32 0) := cell_blk q5 0 rfl
      have f0 : wr.frozen? ⟨w.heap.size + 1 + 1, 0, none⟩ = false := free_blk q5 0
      have d1 : wr.cell? ⟨w.heap.size + 1 + 1, 1, none⟩ = some (.int .u32 0) := cell_blk q5 1 rfl
      have f1 : wr.frozen? ⟨w.heap.size + 1 + 1, 1, none⟩ = false := free_blk q5 1
      have d2 : wr.cell? ⟨w.heap.size + 1 + 1, 2, none⟩ = some (.int .u32 0) := cell_blk q5 2 rfl
      have f2 : wr.frozen? ⟨w.heap.size + 1 + 1, 2, none⟩ = false := free_blk q5 2
      have d3 : wr.cell? ⟨w.heap.size + 1 + 1, 3, none⟩ = some (.int .u32 0) := cell_blk q5 3 rfl
      have f3 : wr.frozen? ⟨w.heap.size + 1 + 1, 3, none⟩ = false := free_blk q5 3
      have d4 : wr.cell? ⟨w.heap.size + 1 + 1, 4, none⟩ = some (.int .u32 0) := cell_blk q5 4 rfl
      have f4 : wr.frozen? ⟨w.heap.size + 1 + 1, 4, none⟩ = false := free_blk q5 4
      have d5 : wr.cell? ⟨w.heap.size + 1 + 1, 5, none⟩ = some (.int .u32 0) := cell_blk q5 5 rfl
      have f5 : wr.frozen? ⟨w.heap.size + 1 + 1, 5, none⟩ = false := free_blk q5 5
      have d6 : wr.cell? ⟨w.heap.size + 1 + 1, 6, none⟩ = some (.int .u32 0) := cell_blk q5 6 rfl
      have f6 : wr.frozen? ⟨w.heap.size + 1 + 1, 6, none⟩ = false := free_blk q5 6
      have d7 : wr.cell? ⟨w.heap.size + 1 + 1, 7, none⟩ = some (.int .u32 0) := cell_blk q5 7 rfl
      have f7 : wr.frozen? ⟨w.heap.size + 1 + 1, 7, none⟩ = false := free_blk q5 7
      have Q1 := Lib.hid q1
      have Hr := Lib.hid hr
      clear q1 q2 q3 q4 q5 hr
      go_wp2
      refine bodyPost_ret (v := .agg (stV (s.add r))) ?_ rfl ⟨?_, ?_⟩
      · simp [results, Tryd.results71, go_sem, d0, d1, d2, d3, d4, d5, d6, d7, stV, Sha.St.add]
      · rw [Hr.out]
      · have hsz : w.heap.size ≤ w.heap.size + 1 + 1 := by omega
        exact grown_set (grown_set (grown_set (grown_set (grown_set (grown_set (grown_set (grown_set Q1.out (.inl hsz) _) (.inl hsz) _) (.inl hsz) _) (.inl hsz) _) (.inl hsz) _) (.inl hsz) _) (.inl hsz) _) (.inl hsz) _
end Go.Proofs.YtgdnndapmcjoeaaDoor
