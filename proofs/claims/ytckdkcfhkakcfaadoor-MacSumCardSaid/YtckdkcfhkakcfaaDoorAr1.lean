/- The walks of the laws' long and of SameLists. -/
import Derived.Test.YtckdkcfhkakcfaaDoorMs6
namespace Go.Proofs.YtckdkcfhkakcfaaDoor
open Go.RowKit

def longB (kl : Nat) (parts : List (List Nat)) : Bool := decide (300 < kl ∨ 20 < parts.length ∨ ∃ p ∈ parts, 300 < p.length)

theorem getD_mem {parts : List (List Nat)} {k : Nat} (h : k < parts.length) : parts.getD k [] ∈ parts := by
  rw [List.getD_eq_getElem?_getD, List.getElem?_eq_getElem h]
  exact List.getElem_mem h
theorem mem_getD {parts : List (List Nat)} {p : List Nat} (h : p ∈ parts) : ∃ k, k < parts.length ∧ parts.getD k [] = p := by
  obtain ⟨i, hi, rfl⟩ := List.mem_iff_getElem.1 h
  exact ⟨i, hi, by rw [List.getD_eq_getElem?_getD, List.getElem?_eq_getElem hi]; rfl⟩

set_option maxRecDepth 100000 in
set_option maxHeartbeats 1000000 in
theorem long_any (ka : Option Addr) (kl kc : Nat) (parts : List (List Nat)) (a : Option Addr) (sb so n c : Nat) (hn : parts.length = n) (w : World) (ha : 0 < n → a = some ⟨sb, so, none⟩ ∧ sb < w.heap.size) (hP : PartsW w sb so parts)
    (hnn : n ≤ 9223372036854775807) :
    Calls Tryd.prog 28 #[.slice ka kl kc, .slice a n c] w fun e w' => e = .returned (.bool (longB kl parts)) ∧ w' = w := by
  have Hn := Lib.hid hn
  have Ha := Lib.hid ha
  have HP := Lib.hid hP
  clear hn ha hP
  by_cases h1 : 300 < kl
  · have hL : longB kl parts = true := decide_eq_true (.inl h1)
    rw [hL]
    have d1 : decide ((300 : Int) < (kl : Int)) = true := decide_eq_true (by omega)
    go_enter Tryd.func28, Tryd.ntmps28
    go_wp2
    go_ret
    exact ⟨rfl, rfl⟩
  · have d1 : decide ((300 : Int) < (kl : Int)) = false := decide_eq_false (by omega)
    by_cases h2 : 20 < n
    · have hL : longB kl parts = true := decide_eq_true (.inr (.inl (by rw [Hn.out]; exact h2)))
      rw [hL]
      have d2 : decide ((20 : Int) < (n : Int)) = true := decide_eq_true (by omega)
      go_enter Tryd.func28, Tryd.ntmps28
      go_wp2
      go_ret
      exact ⟨rfl, rfl⟩
    · have d2 : decide ((20 : Int) < (n : Int)) = false := decide_eq_false (by omega)
      have H1 := Lib.hid h1
      go_enter Tryd.func28, Tryd.ntmps28
      go_wp2
      clear h1 d1 d2
      go_loopw [17] (fun i wr => ∃ k : Nat, k ≤ n ∧ i = .int .i64 k ∧ wr = w ∧ ∀ j, j < k → (parts.getD j []).length ≤ 300) (fun i _ => n - (intOf i).toNat)
      case atStart => exact ⟨0, Nat.zero_le _, rfl, rfl, fun j hj => absurd hj (Nat.not_lt_zero _)⟩
      case round =>
        obtain ⟨k, hk, rfl, hwr, hall⟩ := hrel
        have hwr' := hwr.symm
        subst hwr'
        have HA := Lib.hid hall
        clear hwr hall
        by_cases hkn : k < n
        · obtain ⟨rfl, ha2⟩ := Ha.out (by omega)
          obtain ⟨pv, hpc, hBy, _⟩ := HP.out k (by rw [Hn.out]; exact hkn)
          obtain ⟨_, pa, psb, pso, pc, rfl, _, _, _⟩ := hBy
          obtain ⟨q, hq⟩ : ∃ q, q = (parts.getD k []).length := ⟨_, rfl⟩
          rw [← hq] at hpc
          have Hq := Lib.hid hq
          clear hq
          by_cases hb : 300 < q
          · have hL : longB kl parts = true := decide_eq_true (.inr (.inr ⟨_, getD_mem (by rw [Hn.out]; exact hkn), by rw [← Hq.out]; exact hb⟩))
            go_wp2
            go_ret
            first | exact ⟨rfl, rfl⟩ | exact ⟨ret_bool hL.symm, rfl⟩
          · go_wp2
            go_roundw
            case rel =>
              refine ⟨k + 1, by omega, by go_num, trivial, fun j hj => ?_⟩
              rcases Nat.lt_or_ge j k with h | h
              · exact HA.out j h
              · obtain rfl : j = k := by omega
                rw [← Hq.out]; omega
            case measure => simp [intOf]; omega
        · obtain rfl : k = n := by omega
          have hL : longB kl parts = false := decide_eq_false (by
            rintro (h | h | ⟨p, hp, hpl⟩)
            · exact H1.out h
            · rw [Hn.out] at h; omega
            · obtain ⟨i, hi, rfl⟩ := mem_getD hp
              have := HA.out i (by rw [← Hn.out]; exact hi)
              omega)
          go_wp2
          go_ret
          first | exact ⟨rfl, rfl⟩ | exact ⟨ret_bool hL.symm, rfl⟩

set_option maxRecDepth 100000 in
set_option maxHeartbeats 1000000 in
theorem sameLists_any (A B : List (List Nat)) (a : Option Addr) (sa oa n ca : Nat) (hn : A.length = n) (b : Option Addr) (sb ob m cb : Nat) (hm : B.length = m) (w : World)
    (ha : 0 < n → a = some ⟨sa, oa, none⟩ ∧ sa < w.heap.size) (hA : PartsW w sa oa A) (hb : 0 < m → b = some ⟨sb, ob, none⟩ ∧ sb < w.heap.size) (hB : PartsW w sb ob B) (hnn : n ≤ 9223372036854775807) (hmm : m ≤ 9223372036854775807) :
    Calls Tryd.prog 37 #[.slice a n ca, .slice b m cb] w fun e w' => e = .returned (.bool (decide (A = B))) ∧ ∃ q, w' = w.drewN q := by
  have Hn := Lib.hid hn
  have Hm := Lib.hid hm
  have Ha := Lib.hid ha
  have Hb := Lib.hid hb
  have HA := Lib.hid hA
  have HB := Lib.hid hB
  clear hn hm ha hb hA hB
  by_cases hnm : n = m
  · subst hnm
    have hne : ((n : Int) != (n : Int)) = false := by simp
    go_enter Tryd.func37, Tryd.ntmps37
    go_wp2
    go_loopw [13] (fun i wr => ∃ k : Nat, k ≤ n ∧ i = .int .i64 k ∧ (∃ q, wr = w.drewN q) ∧ ∀ j, j < k → A.getD j [] = B.getD j []) (fun i _ => n - (intOf i).toNat)
    case atStart => exact ⟨0, Nat.zero_le _, rfl, ⟨0, rfl⟩, fun j hj => absurd hj (Nat.not_lt_zero _)⟩
    case round =>
      obtain ⟨k, hk, rfl, ⟨q, rfl⟩, hall⟩ := hrel
      have HAll := Lib.hid hall
      clear hall
      by_cases hkn : k < n
      · obtain ⟨rfl, ha2⟩ := Ha.out (by omega)
        obtain ⟨rfl, hb2⟩ := Hb.out (by omega)
        obtain ⟨pv, hpc, hBy, _⟩ := HA.out k (by rw [Hn.out]; exact hkn)
        obtain ⟨qv, hqc, hCy, _⟩ := HB.out k (by rw [Hm.out]; exact hkn)
        have c1 : ∀ m, (convert 25 9 pv).run Tryd.prog (w.drewN m) = .ok (.string (strOf (A.getD k []))) (w.drewN m) := fun m => conv_bytes (hBy.grown (grown_drewN (grown_refl _ _) m)) _ 5 _ Tryd.underlying25 Tryd.underlying5 Tryd.underlying9
        have c2 : ∀ m, (convert 25 9 qv).run Tryd.prog (w.drewN m) = .ok (.string (strOf (B.getD k []))) (w.drewN m) := fun m => conv_bytes (hCy.grown (grown_drewN (grown_refl _ _) m)) _ 5 _ Tryd.underlying25 Tryd.underlying5 Tryd.underlying9
        have hbq := strOf_beq hBy.lt hCy.lt
        generalize strOf (A.getD k []) = s1 at *
        generalize strOf (B.getD k []) = s2 at *
        clear hBy hCy
        by_cases heq : A.getD k [] = B.getD k []
        · have hq2 : (s1.toList == s2.toList) = true := by rw [hbq]; exact decide_eq_true heq
          have Heq := Lib.hid heq
          clear hbq heq
          go_wp2
          go_quiet (fail)
          go_wp2
          go_roundw
          case rel =>
            refine ⟨k + 1, by omega, by go_num, ⟨_, rfl⟩, fun j hj => ?_⟩
            rcases Nat.lt_or_ge j k with h | h
            · exact HAll.out j h
            · obtain rfl : j = k := by omega
              exact Heq.out
          case measure => simp [intOf]; omega
        · have hq2 : (s1.toList == s2.toList) = false := by rw [hbq]; exact decide_eq_false heq
          have hL : decide (A = B) = false := decide_eq_false (fun e => heq (by rw [e]))
          clear hbq heq
          go_wp2
          go_quiet (fail)
          go_wp2
          go_ret
          first | exact ⟨rfl, _, rfl⟩ | exact ⟨rfl, _, World.drewN_drewN _ _ _⟩ | exact ⟨ret_bool hL.symm, _, rfl⟩ | exact ⟨ret_bool hL.symm, _, World.drewN_drewN _ _ _⟩
      · obtain rfl : k = n := by omega
        have hL : decide (A = B) = true := decide_eq_true (by
          refine List.ext_getElem (by rw [Hn.out, Hm.out]) fun i h1 h2 => ?_
          have := HAll.out i (by rw [← Hn.out]; exact h1)
          simpa [List.getD_eq_getElem?_getD, h1, h2] using this)
        go_wp2
        go_ret
        first | exact ⟨rfl, q, rfl⟩ | exact ⟨ret_bool hL.symm, q, rfl⟩
  · have hne : ((n : Int) != (m : Int)) = true := by simp; omega
    have hL : decide (A = B) = false := decide_eq_false (fun e => hnm (by rw [← Hn.out, ← Hm.out, e]))
    rw [hL]
    go_enter Tryd.func37, Tryd.ntmps37
    go_wp2
    go_ret
    exact ⟨rfl, 0, rfl⟩
end Go.Proofs.YtckdkcfhkakcfaaDoor
