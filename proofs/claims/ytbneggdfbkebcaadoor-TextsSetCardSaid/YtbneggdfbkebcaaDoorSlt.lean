/- The walk of bullanum's SameLists. -/
import Derived.Test.YtbneggdfbkebcaaDoorMs4
import Derived.Test.YtbneggdfbkebcaaDoorChecked
import Derived.WalkKit
import Derived.BigQuiet
import Derived.Lib.Hide
namespace Go.Proofs.YtbneggdfbkebcaaDoor
open Go.RowKit

set_option maxRecDepth 100000 in
set_option maxHeartbeats 1000000 in
theorem sameL_any (A B : List (List Nat)) (a : Option Addr) (sa oa n ca : Nat) (hn : A.length = n) (b : Option Addr) (sb ob m cb : Nat) (hm : B.length = m) (w : World)
    (ha : 0 < n → a = some ⟨sa, oa, none⟩ ∧ sa < w.heap.size) (hA : PartsW w sa oa A) (hb : 0 < m → b = some ⟨sb, ob, none⟩ ∧ sb < w.heap.size) (hB : PartsW w sb ob B) (hnn : n ≤ 9223372036854775807) (hmm : m ≤ 9223372036854775807) :
    Calls Tryd.prog 24 #[.slice a n ca, .slice b m cb] w fun e w' => e = .returned (.bool (decide (A = B))) ∧ ∃ q, w' = w.drewN q := by
  have Hn := Lib.hid hn
  have Hm := Lib.hid hm
  have Ha := Lib.hid ha
  have Hb := Lib.hid hb
  have HA := Lib.hid hA
  have HB := Lib.hid hB
  clear hn hm ha hb hA hB
  by_cases hnm : n = m
  · subst hnm
    have hne : ((n : Int) != (n : Int)) = false := by simp
    go_enter Tryd.func24, Tryd.ntmps24
    go_wp2
    go_loopw [13] (fun i wr => ∃ k : Nat, k ≤ n ∧ i = .int .i64 k ∧ (∃ q, wr = w.drewN q) ∧ ∀ j, j < k → A.getD j [] = B.getD j []) (fun i _ => n - (intOf i).toNat)
    case atStart => exact ⟨0, Nat.zero_le _, rfl, ⟨0, rfl⟩, fun j hj => absurd hj (Nat.not_lt_zero _)⟩
    case round =>
      obtain ⟨k, hk, rfl, ⟨q, rfl⟩, hall⟩ := hrel
      have HAll := Lib.hid hall
      clear hall
      by_cases hkn : k < n
      · obtain ⟨rfl, ha2⟩ := Ha.out (by omega)
        obtain ⟨rfl, hb2⟩ := Hb.out (by omega)
        obtain ⟨pv, hpc, hBy, _⟩ := HA.out k (by rw [Hn.out]; exact hkn)
        obtain ⟨qv, hqc, hCy, _⟩ := HB.out k (by rw [Hm.out]; exact hkn)
        have c1 : ∀ m, (convert 24 9 pv).run Tryd.prog (w.drewN m) = .ok (.string (strOf (A.getD k []))) (w.drewN m) := fun m => conv_bytes (hBy.grown (grown_drewN (grown_refl _ _) m)) _ 5 _ Tryd.underlying24 Tryd.underlying5 Tryd.underlying9
        have c2 : ∀ m, (convert 24 9 qv).run Tryd.prog (w.drewN m) = .ok (.string (strOf (B.getD k []))) (w.drewN m) := fun m => conv_bytes (hCy.grown (grown_drewN (grown_refl _ _) m)) _ 5 _ Tryd.underlying24 Tryd.underlying5 Tryd.underlying9
        have hbq := strOf_beq hBy.lt hCy.lt
        generalize strOf (A.getD k []) = s1 at *
        generalize strOf (B.getD k []) = s2 at *
        clear hBy hCy
        by_cases heq : A.getD k [] = B.getD k []
        · have hq2 : (s1.toList == s2.toList) = true := by rw [hbq]; exact decide_eq_true heq
          have Heq := Lib.hid heq
          clear hbq heq
          go_wp2
          go_quiet (fail)
          go_wp2
          go_roundw
          case rel =>
            refine ⟨k + 1, by omega, by go_num, ⟨_, rfl⟩, fun j hj => ?_⟩
            rcases Nat.lt_or_ge j k with h | h
            · exact HAll.out j h
            · obtain rfl : j = k := by omega
              exact Heq.out
          case measure => simp [intOf]; omega
        · have hq2 : (s1.toList == s2.toList) = false := by rw [hbq]; exact decide_eq_false heq
          have hL : decide (A = B) = false := decide_eq_false (fun e => heq (by rw [e]))
          clear hbq heq
          go_wp2
          go_quiet (fail)
          go_wp2
          go_ret
          first | exact ⟨rfl, _, rfl⟩ | exact ⟨rfl, _, World.drewN_drewN _ _ _⟩ | exact ⟨ret_bool hL.symm, _, rfl⟩ | exact ⟨ret_bool hL.symm, _, World.drewN_drewN _ _ _⟩
      · obtain rfl : k = n := by omega
        have hL : decide (A = B) = true := decide_eq_true (by
          refine List.ext_getElem (by rw [Hn.out, Hm.out]) fun i h1 h2 => ?_
          have := HAll.out i (by rw [← Hn.out]; exact h1)
          simpa [List.getD_eq_getElem?_getD, h1, h2] using this)
        go_wp2
        go_ret
        first | exact ⟨rfl, q, rfl⟩ | exact ⟨ret_bool hL.symm, q, rfl⟩
  · have hne : ((n : Int) != (m : Int)) = true := by simp; omega
    have hL : decide (A = B) = false := decide_eq_false (fun e => hnm (by rw [← Hn.out, ← Hm.out, e]))
    rw [hL]
    go_enter Tryd.func24, Tryd.ntmps24
    go_wp2
    go_ret
    exact ⟨rfl, 0, rfl⟩
end Go.Proofs.YtbneggdfbkebcaaDoor
