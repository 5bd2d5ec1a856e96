/- The walk of sha's compression. -/
import Derived.Test.YtndgbhgalablfaaDoorSh1
import Derived.LoopTactic
import Derived.Deep.DeepCutAuto
namespace Go.Proofs.YtndgbhgalablfaaDoor
open Go.RowKit

def wordsV (ws : List Nat) : Array Value := (ws.map fun (x : Nat) => Value.int .u32 (x : Int)).toArray

theorem wordsV_at (ws : List Nat) (i : Nat) (h : i < ws.length) : (wordsV ws)[i]? = some (.int .u32 (ws.getD i 0 : Nat)) := by
  simp [wordsV, h]
theorem wordsV_size (ws : List Nat) : (wordsV ws).size = ws.length := by simp [wordsV]

def stV (s : Sha.St) : Array Value := #[.int .u32 s.a, .int .u32 s.b, .int .u32 s.c, .int .u32 s.d, .int .u32 s.e, .int .u32 s.f, .int .u32 s.g, .int .u32 s.h]

theorem xor_any {a b : Nat} (ha : a < 4294967296) (hb : b < 4294967296) : bits .xor .u32 (a : Int) (b : Int) = ((a ^^^ b : Nat) : Int) := u32_xor_nat a b ha hb

theorem ch_out (e f g : Nat) (he : e < 4294967296) (hf : f < 4294967296) (hg : g < 4294967296) :
    bits .xor .u32 (bits .and .u32 e f) (bits .and .u32 (bits .xor .u32 4294967295 e) g) = ((Sha.ch e f g : Nat) : Int) := by
  have h1 : bits .xor .u32 (4294967295 : Int) (e : Int) = ((4294967295 - e : Nat) : Int) := by
    have := u32_xor_nat 4294967295 e (by decide) he
    rw [Sha.xor_max e he] at this; exact this
  rw [h1, u32_and_nat _ _ he hf, u32_and_nat _ _ (by omega) hg, u32_xor_nat _ _ (Sha.and_lt he) (Sha.and_lt (by omega))]
  rfl
theorem maj_out (a b c : Nat) (ha : a < 4294967296) (hb : b < 4294967296) (hc : c < 4294967296) :
    bits .xor .u32 (bits .xor .u32 (bits .and .u32 a b) (bits .and .u32 a c)) (bits .and .u32 b c) = ((Sha.maj a b c : Nat) : Int) := by
  rw [u32_and_nat _ _ ha hb, u32_and_nat _ _ ha hc, u32_and_nat _ _ hb hc, u32_xor_nat _ _ (Sha.and_lt ha) (Sha.and_lt ha),
    u32_xor_nat _ _ (Sha.xor_lt (Sha.and_lt ha) (Sha.and_lt ha)) (Sha.and_lt hb)]
  rfl

/-- The world behind compress's first three blocks. -/
def CmpW (w wr : World) (s : Sha.St) (V : Array Value) (o : Array Value) : Prop :=
  w.grownBy wr none ∧ wr.heap.size = w.heap.size + 3 ∧ wr.heap[w.heap.size]? = some (.cells (stV s) 95 (0, 0)) ∧ wr.heap[w.heap.size + 1]? = some (.cells V 120 (0, 0)) ∧
    wr.heap[w.heap.size + 2]? = some (.cells o 95 (0, 0))

theorem CmpW.drewN {w wr : World} {s : Sha.St} {V o : Array Value} (h : CmpW w wr s V o) (n : Nat) : CmpW w (wr.drewN n) s V o := by
  obtain ⟨h1, h2, h3, h4, h5⟩ := h
  exact ⟨⟨h1.os, h1.tape, h1.output, h1.size, h1.block⟩, h2, h3, h4, h5⟩

theorem CmpW.start (w : World) (s : Sha.St) (V o : Array Value) : CmpW w (((w.alloc (.cells (stV s) 95)).alloc (.cells V 120)).alloc (.cells o 95)) s V o := by
  have e : ∀ (w : World) (o : Obj), (w.alloc o).heap = w.heap.push o := fun _ _ => rfl
  refine ⟨⟨rfl, rfl, rfl, ?_, ?_⟩, ?_, ?_, ?_, ?_⟩
  · simp [e]; omega
  · intro k hk _
    simp [e, Array.getElem?_push, show k ≠ w.heap.size + 1 + 1 by omega, show k ≠ w.heap.size + 1 by omega, show k ≠ w.heap.size by omega]
  · simp [e]
  · simp [e, Array.getElem?_push]; omega
  · simp [e, Array.getElem_push]
  · simp [e, Array.getElem_push]

theorem maskE : (if IntKind.u32.signed = true then (-1 : Int) else IntKind.u32.max) = 4294967295 := by decide

set_option maxRecDepth 100000 in
set_option maxHeartbeats 1000000 in
theorem compress_any (s : Sha.St) (ks ws : List Nat) (hs : s.ok) (hw : ws.length = 64) (w : World) (_hg : 30 < w.heap.size) (hk : ∀ i, i < 64 → w.cell? ⟨30, i, none⟩ = some (.int .u32 (ks.getD i 0 : Nat))) :
    Calls Tryd.prog 74 #[.agg (stV s), .agg (wordsV ws)] w fun e w' => e = .returned (.agg (stV (s.add (s.run ks ws 64)))) ∧ w.grownBy w' none := by
  obtain ⟨V, hV⟩ : ∃ V, V = wordsV ws := ⟨_, rfl⟩
  have hz : V.size = 64 := by rw [hV, wordsV_size, hw]
  have hVat : ∀ i, i < 64 → V[i]? = some (.int .u32 (ws.getD i 0 : Nat)) := fun i h => by rw [hV]; exact wordsV_at ws i (by omega)
  have HVat := Lib.hid hVat
  have Hk := Lib.hid hk
  have Hs := Lib.hid hs
  have HC := Lib.hid (CmpW.start w s V)
  rw [← hV]
  clear hV hVat hk hs
  unfold stV at HC
  rw [show (Value.agg (stV s)) = .agg #[.int .u32 s.a, .int .u32 s.b, .int .u32 s.c, .int .u32 s.d, .int .u32 s.e, .int .u32 s.f, .int .u32 s.g, .int .u32 s.h] from rfl]
  go_enter Tryd.func74, Tryd.ntmps74
  go_wp2
  go_quiet (fail)
  go_wp2
  go_quiet (fail)
  go_wp2
  go_loopw [5, 6, 7, 8, 9, 10, 11, 12, 32] (fun a b c d e f g h i wr => ∃ k : Nat, k ≤ 64 ∧ i = .int .i64 k ∧
      a = .int .u32 (s.run ks ws k).a ∧ b = .int .u32 (s.run ks ws k).b ∧ c = .int .u32 (s.run ks ws k).c ∧ d = .int .u32 (s.run ks ws k).d ∧
      e = .int .u32 (s.run ks ws k).e ∧ f = .int .u32 (s.run ks ws k).f ∧ g = .int .u32 (s.run ks ws k).g ∧ h = .int .u32 (s.run ks ws k).h ∧
      CmpW w wr s V (stV ⟨0, 0, 0, 0, 0, 0, 0, 0⟩)) (fun _ _ _ _ _ _ _ _ i _ => 64 - (intOf i).toNat)
  case atStart => exact ⟨0, Nat.zero_le _, rfl, rfl, rfl, rfl, rfl, rfl, rfl, rfl, rfl, ((CmpW.start w s V _).drewN _).drewN _⟩
  case round =>
    obtain ⟨k, hk, rfl, rfl, rfl, rfl, rfl, rfl, rfl, rfl, rfl, hC⟩ := hrel
    have hok := Sha.St.run_ok (ks := ks) (ws := ws) Hs.out k
    by_cases hlt : k < 64
    · obtain ⟨q1, q2, q3, q4, q5⟩ := hC
      obtain ⟨kk, hkk⟩ : ∃ x, x = ks.getD k 0 := ⟨_, rfl⟩
      obtain ⟨ww, hww⟩ : ∃ x, x = ws.getD k 0 := ⟨_, rfl⟩
      have hkc : wr.cell? ⟨30, k, none⟩ = some (.int .u32 (kk : Nat)) := by rw [hkk]; exact q1.cell (Hk.out k hlt) (by simp)
      have hvc : wr.cell? ⟨w.heap.size + 1, k, none⟩ = some (.int .u32 (ww : Nat)) := by rw [hww]; exact cell_blk q4 k (HVat.out k hlt)
      have HC2 := Lib.hid (show CmpW w wr s V _ from ⟨q1, q2, q3, q4, q5⟩)
      clear q1 q2 q3 q4 q5
      obtain ⟨r, hr⟩ : ∃ r, r = s.run ks ws k := ⟨_, rfl⟩
      rw [← hr] at hok ⊢
      have Hr : Hid (s.run ks ws (k + 1) = r.step kk ww) := by rw [hr, hkk, hww]; rfl
      clear hr hkk hww
      have Hok := Lib.hid hok
      obtain ⟨b1, b2, b3, b4, b5, b6, b7, b8⟩ := hok
      go_wp2
      go_quiet ((go_at_call 78; exact Calls.quiet_of_same ((high_any _ 6 11 25 (by omega) (by omega) (by omega) (by omega) (by omega) (by omega) (by omega) _).mono fun e w' ⟨h1, h2⟩ => ⟨h1, h2.symm⟩)))
      go_wp2_with (go_at_call 78; refine (high_any _ 2 13 22 (by omega) (by omega) (by omega) (by omega) (by omega) (by omega) (by omega) _).mono ?_; rintro e w' ⟨rfl, rfl⟩)
      go_roundw
      case rel =>
        refine ⟨k + 1, by omega, by go_num, ?_, ?_, ?_, ?_, ?_, ?_, ?_, ?_, HC2.out.drewN _⟩
        · rw [Hr.out, maskE, ch_out _ _ _ b5 b6 b7, maj_out _ _ _ b1 b2 b3]
          refine congrArg (Value.int .u32) ?_
          simp only [Sha.St.step, Sha.t1, Sha.t2]
          omega
        · rw [Hr.out]; rfl
        · rw [Hr.out]; rfl
        · rw [Hr.out]; rfl
        · rw [Hr.out, maskE, ch_out _ _ _ b5 b6 b7]
          refine congrArg (Value.int .u32) ?_
          simp only [Sha.St.step, Sha.t1, Sha.t2]
          omega
        · rw [Hr.out]; rfl
        · rw [Hr.out]; rfl
        · rw [Hr.out]; rfl
      case measure => simp [intOf]; omega
    · obtain rfl : k = 64 := by omega
      obtain ⟨q1, q2, q3, q4, q5⟩ := hC
      unfold stV at q3 q5
      obtain ⟨r, hr⟩ : ∃ r, r = s.run ks ws 64 := ⟨_, rfl⟩
      rw [← hr] at hok ⊢
      have c0 : wr.cell? ⟨w.heap.size, 0, none⟩ = some (.int .u32 s.a) := cell_blk q3 0 rfl
      have c1 : wr.cell? ⟨w.heap.size, 1, none⟩ = some (.int .u32 s.b) := cell_blk q3 1 rfl
      have c2 : wr.cell? ⟨w.heap.size, 2, none⟩ = some (.int .u32 s.c) := cell_blk q3 2 rfl
      have c3 : wr.cell? ⟨w.heap.size, 3, none⟩ = some (.int .u32 s.d) := cell_blk q3 3 rfl
      have c4 : wr.cell? ⟨w.heap.size, 4, none⟩ = some (.int .u32 s.e) := cell_blk q3 4 rfl
      have c5 : wr.cell? ⟨w.heap.size, 5, none⟩ = some (.int .u32 s.f) := cell_blk q3 5 rfl
      have c6 : wr.cell? ⟨w.heap.size, 6, none⟩ = some (.int .u32 s.g) := cell_blk q3 6 rfl
      have c7 : wr.cell? ⟨w.heap.size, 7, none⟩ = some (.int .u32 s.h) := cell_blk q3 7 rfl
      have d0 : wr.cell? ⟨w.heap.size + 1 + 1, 0, none⟩ = some (.int .u32 0) := cell_blk q5 0 rfl
      have f0 : wr.frozen? ⟨w.heap.size + 1 + 1, 0, none⟩ = false := free_blk q5 0
      have d1 : wr.cell? ⟨w.heap.size + 1 + 1, 1, none⟩ = some (.int .u32 0) := cell_blk q5 1 rfl
      have f1 : wr.frozen? ⟨w.heap.size + 1 + 1, 1, none⟩ = false := free_blk q5 1
      have d2 : wr.cell? ⟨w.heap.size + 1 + 1, 2, none⟩ = some (.int .u32 0) := cell_blk q5 2 rfl
      have f2 : wr.frozen? ⟨w.heap.size + 1 + 1, 2, none⟩ = false := free_blk q5 2
      have d3 : wr.cell? ⟨w.heap.size + 1 + 1, 3, none⟩ = some (.int .u32 0) := cell_blk q5 3 rfl
      have f3 : wr.frozen? ⟨w.heap.size + 1 + 1, 3, none⟩ = false := free_blk q5 3
      have d4 : wr.cell? ⟨w.heap.size + 1 + 1, 4, none⟩ = some (.int .u32 0) := cell_blk q5 4 rfl
      have f4 : wr.frozen? ⟨w.heap.size + 1 + 1, 4, none⟩ = false := free_blk q5 4
      have d5 : wr.cell? ⟨w.heap.size + 1 + 1, 5, none⟩ = some (.int .u32 0) := cell_blk q5 5 rfl
      have f5 : wr.frozen? ⟨w.heap.size + 1 + 1, 5, none⟩ = false := free_blk q5 5
      have d6 : wr.cell? ⟨w.heap.size + 1 + 1, 6, none⟩ = some (.int .u32 0) := cell_blk q5 6 rfl
      have f6 : wr.frozen? ⟨w.heap.size + 1 + 1, 6, none⟩ = false := free_blk q5 6
      have d7 : wr.cell? ⟨w.heap.size + 1 + 1, 7, none⟩ = some (.int .u32 0) := cell_blk q5 7 rfl
      have f7 : wr.frozen? ⟨w.heap.size + 1 + 1, 7, none⟩ = false := free_blk q5 7
      have Q1 := Lib.hid q1
      have Hr := Lib.hid hr
      clear q1 q2 q3 q4 q5 hr
      go_wp2
      refine bodyPost_ret (v := .agg (stV (s.add r))) ?_ rfl ⟨?_, ?_⟩
      · simp [results, Tryd.results74, go_sem, d0, d1, d2, d3, d4, d5, d6, d7, stV, Sha.St.add]
      · rw [Hr.out]
      · have hsz : w.heap.size ≤ w.heap.size + 1 + 1 := by omega
        exact grown_set (grown_set (grown_set (grown_set (grown_set (grown_set (grown_set (grown_set Q1.out (.inl hsz) _) (.inl hsz) _) (.inl hsz) _) (.inl hsz) _) (.inl hsz) _) (.inl hsz) _) (.inl hsz) _) (.inl hsz) _
end Go.Proofs.YtndgbhgalablfaaDoor
