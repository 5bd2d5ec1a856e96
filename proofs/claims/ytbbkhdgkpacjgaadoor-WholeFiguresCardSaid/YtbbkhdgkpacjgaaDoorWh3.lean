/- The walk of the document's Put of whole numbers. -/
import Derived.Test.YtbbkhdgkpacjgaaDoorWh2
import Derived.Test.YtbbkhdgkpacjgaaDoorSub
namespace Go.Proofs.YtbbkhdgkpacjgaaDoor
open Go.RowKit

def lenV : Value → Nat
  | .slice _ n _ => n
  | _ => 0
theorem be_at (k n j : Nat) (h : j < k) : (Wh.be k n).getD j 0 = n / 256 ^ (k - 1 - j) % 256 := by
  induction k generalizing j with
  | zero => omega
  | succ k ih =>
    match j with
    | 0 => simp [Wh.be]
    | j + 1 =>
      rw [Wh.be, List.getD_cons_succ, ih j (by omega)]
      congr 3
      omega
theorem be_take_succ (k n j : Nat) (h : j < k) : (Wh.be k n).take (j + 1) = (Wh.be k n).take j ++ [n / 256 ^ (k - 1 - j) % 256] := by
  have hl : j < (Wh.be k n).length := by rw [Wh.be_len]; exact h
  rw [List.take_add_one, List.getElem?_eq_getElem hl, ← be_at k n j h, List.getD_eq_getElem?_getD, List.getElem?_eq_getElem hl]
  rfl

theorem byte_eq (U m : Nat) : ((U : Int) / 2 ^ (8 * m) % 256) = ((U / 256 ^ m % 256 : Nat) : Int) := by
  have e : ((2 : Int) ^ (8 * m)) = ((256 ^ m : Nat) : Int) := by
    rw [show (256 : Nat) = 2 ^ 8 from rfl, ← Nat.pow_mul]
    simp
  rw [e, Int.natCast_emod, Int.natCast_ediv]
  rfl

set_option maxRecDepth 100000 in
set_option maxHeartbeats 400000 in
theorem refWPut_any (n : Int) (w : World) :
    Calls Tryd.prog 10 #[.int .i64 n] w fun e w' => ∃ v, e = .returned v ∧ w.grownBy w' none ∧ Bytes w' v (Wh.body n) ∧ Whole0 v := by
  have hu : IntKind.u64.wrap n = ((Wh.u64 n : Nat) : Int) := by
    simp only [IntKind.wrap, IntKind.bits, IntKind.signed, Wh.u64]
    simp
    omega
  have hU : Wh.u64 n < 18446744073709551616 := by unfold Wh.u64; omega
  obtain ⟨L, hL⟩ : ∃ L, L = Wh.be 8 (Wh.u64 n) := ⟨_, rfl⟩
  have HL := Lib.hid hL
  have hbody : Wh.body n = Wh.strip L := by rw [hL]; rfl
  rw [hbody]
  have HA := Lib.hid (fun k hk => be_take_succ 8 (Wh.u64 n) k hk)
  rw [← hL] at HA
  generalize Wh.u64 n = U at *
  clear hL hbody
  have R0 : Hid ((w.alloc (.cells #[] 5)).ownsRow w.heap.size 5 1 (.slice (some ⟨w.heap.size, 0, none⟩) 0 0) 0 (cellsL (L.take 0))) := Lib.hid (ownsRow_lit (alloc_at w _) (Nat.le_refl _) (by simp))
  have G0 := Lib.hid (World.grownBy_alloc w (.cells #[] 5) none)
  go_enter Tryd.func10, Tryd.ntmps10
  go_wp2
  go_loopw [3, 5] (fun b i wr => ∃ k : Nat, k ≤ 8 ∧ i = .int .i64 (7 - (k : Int)) ∧ wr.ownsRow w.heap.size 5 1 b k (cellsL (L.take k)) ∧ w.grownBy wr none) (fun _ i _ => (intOf i + 1).toNat)
  case atStart => exact ⟨0, by omega, rfl, R0.out, G0.out⟩
  case round =>
    obtain ⟨k, hk, rfl, ho, hg⟩ := hrel
    have HO := Lib.hid ho
    have HG := Lib.hid hg
    clear ho hg
    by_cases hk8 : k < 8
    · go_wp2_with (at_builtin; refine wpList_app1 (by rfl) (.tmp 13) (.tmp 20) 23 (by rfl) w.heap.size 5 (.int .u8 0) 1 Tryd.underlying23 (by kernel_rfl) rfl (by decide) _ _ _ (by rfl) (HO.out.alloc _) ⟨_, 0, none⟩ _ (by rfl) (cell_blk (alloc_at _ _) 0 rfl) rfl (by omega) (by have := HG.out.size; rw [alloc_size]; omega) ?_; intro v' w3 ho3 hg3; have HO3 := Lib.hid ho3; have HG3 := Lib.hid (grown_own (grown_alloc HG.out _) (HO.out.alloc _) (Nat.le_refl _) hg3); clear ho3 hg3)
      go_roundw
      case rel =>
        refine ⟨k + 1, by omega, by go_num, ?_, HG3.out⟩
        have := HO3.out
        rw [byte_eq] at this
        rw [HA.out k hk8, cellsL_append]
        exact this
      case measure => simp [intOf]; omega
    · obtain rfl : k = 8 := by omega
      obtain ⟨wo, rfl⟩ : ∃ wo : World, wo = wr := ⟨_, rfl⟩
      have hLl : L.length = 8 := by rw [HL.out, Wh.be_len]
      have e8 : L.take 8 = L := List.take_of_length_le (by omega)
      have hBy := Bytes.own (by have := HO.out; rw [e8] at this; exact this) (by rw [HL.out]; exact Wh.be_lt U 8)
      have hW0 := Whole0.own HO.out
      obtain ⟨b0, hb0⟩ : ∃ b, b = L := ⟨_, rfl⟩
      have HLe := Lib.hid hLl
      clear hLl e8 hb0
      go_wp2
      go_loopw [3] (fun b wr => ∃ (l : List Nat) (a : Option Addr) (m c : Nat), b = .slice a m c ∧ Bytes wr (.slice a m c) l ∧ Whole0 (.slice a m c) ∧ Wh.strip l = Wh.strip L ∧ l ≠ [] ∧ wr = wo) (fun b _ => lenV b)
      case atStart =>
        obtain ⟨_, _, c, hf, _⟩ := ownsRow_form HO.out
        exact ⟨L, _, _, _, hf, by rw [← hf]; exact hBy, by rw [← hf]; exact hW0, rfl, (by intro e; have := HLe.out; rw [e] at this; simp at this), rfl⟩
      case round =>
        obtain ⟨l, a, m, c, rfl, hB, hW, hst, hne, rfl⟩ := hrel
        have HBy := Lib.hid hB
        have HW0 := Lib.hid hW
        have Hst := Lib.hid hst
        obtain ⟨hlt, _, sb, so, _, e, hc, ha, hcell⟩ := hB
        cases e
        match l, hne with
        | [x], _ =>
          have SSS : Wh.strip [x] = [x] := rfl
          clear hlt ha hcell hW hst hBy hW0
          go_wp2
          go_ret
          exact ⟨_, rfl, HG.out, by rw [← Hst.out, SSS]; exact HBy.out, HW0.out⟩
        | x :: y :: r, _ =>
          obtain ⟨rfl, ha2⟩ := ha (by simp)
          have c0 : wr.cell? ⟨sb, so, none⟩ = some (.int .u8 (x : Nat)) := hcell 0 (by simp)
          have c1 : wr.cell? ⟨sb, so + 1, none⟩ = some (.int .u8 (y : Nat)) := hcell 1 (by simp)
          have hx := hlt x (by simp)
          have hy := hlt y (by simp)
          clear ha hcell hW hst hBy hW0 hlt
          by_cases hN : Wh.needless (x :: y :: r) = true
          · have SSS : Wh.strip (x :: y :: r) = Wh.strip (y :: r) := by rw [Wh.strip, if_pos hN]
            simp only [Wh.needless, Bool.or_eq_true, Bool.and_eq_true, decide_eq_true_eq] at hN
            rcases hN with ⟨rfl, h2⟩ | ⟨rfl, h2⟩
            · go_wp2
              go_roundw
              case rel =>
                first
                  | exact ⟨y :: r, _, _, _, ⟨rfl, rfl, rfl⟩, (HBy.out.from 1 (by simp)), (HW0.out.from 1), by rw [← Hst.out, SSS], by simp⟩
                  | ((repeat apply Exists.intro)
                     refine ⟨⟨y :: r, subA (some ⟨sb, so, none⟩) 1 c, r.length + 1, c - 1, rfl, HBy.out.from 1 (by simp), HW0.out.from 1, by rw [← Hst.out, SSS], by simp⟩, ?_⟩
                     and_intros <;> rfl)
              case measure => simp [lenV]
            · go_wp2
              go_roundw
              case rel =>
                first
                  | exact ⟨y :: r, _, _, _, ⟨rfl, rfl, rfl⟩, (HBy.out.from 1 (by simp)), (HW0.out.from 1), by rw [← Hst.out, SSS], by simp⟩
                  | ((repeat apply Exists.intro)
                     refine ⟨⟨y :: r, subA (some ⟨sb, so, none⟩) 1 c, r.length + 1, c - 1, rfl, HBy.out.from 1 (by simp), HW0.out.from 1, by rw [← Hst.out, SSS], by simp⟩, ?_⟩
                     and_intros <;> rfl)
              case measure => simp [lenV]
          · have SSS : Wh.strip (x :: y :: r) = x :: y :: r := by rw [Wh.strip, if_neg hN]
            simp only [Wh.needless, Bool.or_eq_true, Bool.and_eq_true, decide_eq_true_eq] at hN
            have hcase : (x = 0 ∧ 128 ≤ y) ∨ (x = 255 ∧ y ≤ 127) ∨ (x ≠ 0 ∧ x ≠ 255) := by omega
            clear hN
            rcases hcase with ⟨rfl, h2⟩ | ⟨rfl, h2⟩ | ⟨h2, h3⟩
            · go_wp2
              go_ret
              exact ⟨_, rfl, HG.out, by rw [← Hst.out, SSS]; exact HBy.out, HW0.out⟩
            · go_wp2
              go_ret
              exact ⟨_, rfl, HG.out, by rw [← Hst.out, SSS]; exact HBy.out, HW0.out⟩
            · go_wp2
              go_ret
              exact ⟨_, rfl, HG.out, by rw [← Hst.out, SSS]; exact HBy.out, HW0.out⟩
end Go.Proofs.YtbbkhdgkpacjgaaDoor
