/- The walk of the constants. -/
import Derived.Test.YtckdkcfhkakcfaaDoorCo2
import Derived.Test.YtckdkcfhkakcfaaDoorCoK
import Derived.Test.YtckdkcfhkakcfaaDoorOwn
namespace Go.Proofs.YtckdkcfhkakcfaaDoor
open Go.RowKit

def intL (ws : List Nat) : List Value := ws.map fun (x : Nat) => Value.int .i64 (x : Int)

set_option maxRecDepth 100000 in
set_option maxHeartbeats 1000000 in
theorem constants_any (w : World) :
    Calls Tryd.prog 25 #[] w fun e w' => ∃ v, e = .returned v ∧ w.grownBy w' none ∧ w'.ownsRow w.heap.size 3 1 v 64 (intL Co.table) := by
  go_enter Tryd.func25, Tryd.ntmps25
  go_wp2
  go_loopw [1, 2] (fun v vp wr => ∃ p : Nat, 2 ≤ p ∧ p ≤ 312 ∧ vp = .int .i64 p ∧ w.grownBy wr none ∧ wr.ownsRow w.heap.size 3 1 v (Co.outN (p - 2)).length (intL (Co.outN (p - 2)))) (fun _ vp _ => 312 - (intOf vp).toNat)
  case atStart => exact ⟨2, by omega, by omega, rfl, World.grownBy_alloc _ _ _, ownsRow_lit (alloc_at _ _) (Nat.le_refl _) (by simp)⟩
  case round =>
    obtain ⟨p, hp1, hp2, rfl, hg, ho⟩ := hrel
    obtain ⟨a, g, c, rfl, hf⟩ := ownsRow_form ho
    have HF := Lib.hid hf
    have HG := Lib.hid hg
    clear hf hg
    by_cases hlt : p < 312
    · have hl := Co.out_lt (p - 2) (by omega)
      obtain ⟨L, hL⟩ : ∃ L, L = Co.outN (p - 2) := ⟨_, rfl⟩
      rw [← hL] at ho hl ⊢
      have HL := Lib.hid hL
      have HO := Lib.hid ho
      clear hL ho
      obtain ⟨m, hm⟩ : ∃ m, m = L.length := ⟨_, rfl⟩
      rw [← hm] at hl HO ⊢
      have Hm := Lib.hid hm
      clear hm
      go_wp2
      obtain ⟨wo, rfl⟩ : ∃ wo : World, wo = wr := ⟨_, rfl⟩
      go_loop [3, 4] (fun vb vd => ∃ d : Nat, 2 ≤ d ∧ d ≤ p ∧ vd = .int .i64 d ∧ vb = .bool (Co.primeN p (d - 2))) (fun _ vd => p - (intOf vd).toNat)
      case atStart => exact ⟨2, by omega, by omega, rfl, rfl⟩
      case round =>
        obtain ⟨d, hd1, hd2, rfl, rfl⟩ := hrel
        by_cases hdp : d < p
        · have HP : Hid (Co.primeN p (d + 1 - 2) = (Co.primeN p (d - 2) && p % d != 0)) := Lib.hid (by
            rw [show d + 1 - 2 = (d - 2) + 1 by omega, Co.primeN, show d - 2 + 2 = d by omega])
          cases hpr : Co.primeN p (d - 2) with
          | true =>
            rw [hpr] at HP
            by_cases hz : p % d = 0
            · have hb : (((p : Int) % (d : Int)) != 0) = false := by rw [bne_eq_false_iff_eq]; omega
              go_wp2
              go_round
              case rel => exact ⟨d + 1, by omega, by omega, by go_num, by rw [HP.out]; simp [hz]⟩
              case measure => simp [intOf]; omega
            · have hb : (((p : Int) % (d : Int)) != 0) = true := by rw [bne_iff_ne]; omega
              go_wp2
              go_round
              case rel => exact ⟨d + 1, by omega, by omega, by go_num, by rw [HP.out]; simp [hz]⟩
              case measure => simp [intOf]; omega
          | false =>
            rw [hpr] at HP
            go_wp2
            go_round
            case rel => exact ⟨d + 1, by omega, by omega, by go_num, by rw [HP.out]; simp⟩
            case measure => simp [intOf]; omega
        · obtain rfl : d = p := by omega
          have HN : Hid (Co.outN (d + 1 - 2) = if Co.primeN d (d - 2) then L ++ [Co.root d] else L) := Lib.hid (by
            rw [show d + 1 - 2 = (d - 2) + 1 by omega, Co.outN, show d - 2 + 2 = d by omega, HL.out]; rfl)
          cases hpr : Co.primeN d (d - 2) with
          | true =>
            rw [hpr, if_pos rfl] at HN
            go_wp2_with (first
              | (go_at_call 49; refine (root_any d (by omega) wo).mono ?_; rintro e w2 ⟨rfl, hg2⟩; have HG2 := Lib.hid hg2; clear hg2)
              | (at_builtin; refine wpList_app1 (by rfl) (.tmp 24) (.tmp 27) 43 (by rfl) w.heap.size 3 (.int .i64 0) 8 Tryd.underlying43 (by kernel_rfl) rfl (by decide) (.slice a m c) m (intL L) (by rfl) ((HO.out.kept HG2.out (by cases a <;> simp [Value.ownBlock])).alloc _) ⟨w2.heap.size, 0, none⟩ (.int .i64 (Co.root d : Nat)) (by rfl) (cell_blk (alloc_at _ _) 0 rfl) rfl (by omega) (by have := HG.out.size; have := HG2.out.size; rw [alloc_size]; omega) ?_; intro v' w3 ho3 hg3; have HO3 := Lib.hid ho3; have HG3 := Lib.hid (grown_own (grown_alloc (grown_trans HG.out HG2.out) _) ((HO.out.kept HG2.out (by cases a <;> simp [Value.ownBlock])).alloc _) (Nat.le_refl _) hg3); clear ho3 hg3))
            go_roundw
            case rel =>
              refine ⟨d + 1, by omega, by omega, by go_num, HG3.out, ?_⟩
              rw [HN.out]
              have := HO3.out
              rw [Hm.out] at this
              simpa [intL] using this
            case measure => simp [intOf]; omega
          | false =>
            rw [hpr] at HN
            go_wp2
            go_roundw
            case rel =>
              refine ⟨d + 1, by omega, by omega, by go_num, HG.out, ?_⟩
              rw [HN.out]
              simp only [Bool.false_eq_true, if_false]
              rw [← Hm.out]
              exact HO.out
            case measure => simp [intOf]; omega
    · obtain rfl : p = 312 := by omega
      rw [show 312 - 2 = 310 from rfl, Co.out310, show Co.table.length = 64 from rfl] at ho ⊢
      have HO := Lib.hid ho
      clear ho
      go_wp2
      go_ret
      exact ⟨_, rfl, HG.out, HO.out⟩
end Go.Proofs.YtckdkcfhkakcfaaDoor
