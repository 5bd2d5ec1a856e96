/- The walk of the law ShaSum: the copies that it makes. -/
import Derived.Test.YtckdkcfhkakcfaaDoorRf10
import Derived.Test.YtckdkcfhkakcfaaDoorAp2
import Derived.Test.YtckdkcfhkakcfaaDoorEq
import Derived.Test.YtckdkcfhkakcfaaDoorSh11
import Derived.Test.YtckdkcfhkakcfaaDoorKp
import Derived.Test.YtckdkcfhkakcfaaDoorTx2
import Derived.Test.YtckdkcfhkakcfaaDoorFlow2
import Derived.Test.YtckdkcfhkakcfaaDoorAr1
namespace Go.Proofs.YtckdkcfhkakcfaaDoor
open Go.RowKit

/-- A copy with room: its value, where it lies. -/
def Copied (w wr : World) (v : Value) (l : List Nat) : Prop := ∃ g c, v = .slice (some ⟨g, 0, none⟩) l.length c ∧ l.length + 6 ≤ c ∧ c ≤ maxLen ∧ w.heap.size ≤ g ∧ (∃ cur fr, wr.heap[g]? = some (.cells cur 5 fr)) ∧ Room wr g l
theorem Copied.grown {w wr wr' : World} {v : Value} {l : List Nat} {row : Option Nat} (h : Copied w wr v l) (hg : wr.grownBy wr' row) (hne : v.ownBlock ≠ row ∨ row = none) : Copied w wr' v l := by
  obtain ⟨g, c, rfl, h1, h2, h3, ⟨cur, fr, h4⟩, h5⟩ := h
  have hn : some g ≠ row := by
    rcases hne with h | h
    · exact h
    · rw [h]; simp
  exact ⟨g, c, rfl, h1, h2, h3, ⟨cur, fr, (hg.block g (blk_lt h4) hn).trans h4⟩, h5.grown (blk_lt h4) hg hn⟩

/-- The world in the law's first loop. -/
structure SumW (w wr : World) (v v2 : Value) (parts : List (List Nat)) (k : Nat) (xs : List Value) : Prop where
  all : FrW w wr v (parts.take k).flatten
  row : wr.ownsRow w.heap.size 25 1 v2 k xs
  each : ∀ i, i < k → ∃ x, xs[i]? = some x ∧ Copied w wr x (parts.getD i []) ∧ v.ownBlock ≠ x.ownBlock

theorem own_ne_own {wr : World} {b1 b2 : Nat} {v v2 : Value} {n m : Nat} {xs ys : List Value} (h1 : wr.ownsRow b1 5 1 v n xs) (h2 : wr.ownsRow b2 25 1 v2 m ys) : v.ownBlock = none ∨ v.ownBlock ≠ v2.ownBlock := by
  rcases h1.2 with ⟨rfl, _⟩ | ⟨g, cap, cur, rfl, _, hg, _⟩
  · exact .inl rfl
  · right
    rcases h2.2 with ⟨rfl, _⟩ | ⟨g2, cap2, cur2, rfl, _, hg2, _⟩
    · simp [Value.ownBlock]
    · intro e
      obtain rfl : g = g2 := by simpa [Value.ownBlock] using e
      rw [hg] at hg2
      simp at hg2
theorem copied_ne_row {w wr : World} {x v2 : Value} {l : List Nat} {b m : Nat} {ys : List Value} (h : Copied w wr x l) (h2 : wr.ownsRow b 25 1 v2 m ys) : x.ownBlock ≠ v2.ownBlock := by
  obtain ⟨g, c, rfl, _, _, _, ⟨cur, fr, hg⟩, _⟩ := h
  rcases h2.2 with ⟨rfl, _⟩ | ⟨g2, cap2, cur2, rfl, _, hg2, _⟩
  · simp [Value.ownBlock]
  · intro e
    obtain rfl : g = g2 := by simpa [Value.ownBlock] using e
    rw [hg] at hg2
    simp at hg2

theorem row_ne_own {wr : World} {b1 b2 : Nat} {v v2 : Value} {n m : Nat} {xs ys : List Value} (h1 : wr.ownsRow b1 5 1 v n xs) (h2 : wr.ownsRow b2 25 1 v2 m ys) : v2.ownBlock = none ∨ v2.ownBlock ≠ v.ownBlock := by
  rcases h2.2 with ⟨rfl, _⟩ | ⟨g, cap, cur, rfl, _, hg, _⟩
  · exact .inl rfl
  · right
    rcases h1.2 with ⟨rfl, _⟩ | ⟨g2, cap2, cur2, rfl, _, hg2, _⟩
    · simp [Value.ownBlock]
    · intro e
      obtain rfl : g = g2 := by simpa [Value.ownBlock] using e
      rw [hg] at hg2
      simp at hg2

set_option maxRecDepth 100000 in
set_option maxHeartbeats 1000000 in
theorem long1_any (parts : List (List Nat)) (a : Option Addr) (sb so n c : Nat) (hn : parts.length = n) (w : World) (ha : 0 < n → a = some ⟨sb, so, none⟩ ∧ sb < w.heap.size) (hP : PartsW w sb so parts)
    (hnn : n ≤ 9223372036854775807) :
    Calls Tryd.prog 12 #[.slice a n c] w fun e w' => e = .returned (.bool (longB 0 parts)) ∧ w' = w := by
  have Hn := Lib.hid hn
  have Ha := Lib.hid ha
  have HP := Lib.hid hP
  clear hn ha hP
  · by_cases h2 : 20 < n
    · have hL : longB 0 parts = true := decide_eq_true (.inr (.inl (by rw [Hn.out]; exact h2)))
      rw [hL]
      have d2 : decide ((20 : Int) < (n : Int)) = true := decide_eq_true (by omega)
      go_enter Tryd.func12, Tryd.ntmps12
      go_wp2
      go_ret
      exact ⟨rfl, rfl⟩
    · have d2 : decide ((20 : Int) < (n : Int)) = false := decide_eq_false (by omega)
      go_enter Tryd.func12, Tryd.ntmps12
      go_wp2
      clear d2
      go_loopw [10] (fun i wr => ∃ k : Nat, k ≤ n ∧ i = .int .i64 k ∧ wr = w ∧ ∀ j, j < k → (parts.getD j []).length ≤ 300) (fun i _ => n - (intOf i).toNat)
      case atStart => exact ⟨0, Nat.zero_le _, rfl, rfl, fun j hj => absurd hj (Nat.not_lt_zero _)⟩
      case round =>
        obtain ⟨k, hk, rfl, hwr, hall⟩ := hrel
        have hwr' := hwr.symm
        subst hwr'
        have HA := Lib.hid hall
        clear hwr hall
        by_cases hkn : k < n
        · obtain ⟨rfl, ha2⟩ := Ha.out (by omega)
          obtain ⟨pv, hpc, hBy, _⟩ := HP.out k (by rw [Hn.out]; exact hkn)
          obtain ⟨_, pa, psb, pso, pc, rfl, _, _, _⟩ := hBy
          obtain ⟨q, hq⟩ : ∃ q, q = (parts.getD k []).length := ⟨_, rfl⟩
          rw [← hq] at hpc
          have Hq := Lib.hid hq
          clear hq
          by_cases hb : 300 < q
          · have hL : longB 0 parts = true := decide_eq_true (.inr (.inr ⟨_, getD_mem (by rw [Hn.out]; exact hkn), by rw [← Hq.out]; exact hb⟩))
            go_wp2
            go_ret
            first | exact ⟨rfl, rfl⟩ | exact ⟨ret_bool hL.symm, rfl⟩
          · go_wp2
            go_roundw
            case rel =>
              refine ⟨k + 1, by omega, by go_num, trivial, fun j hj => ?_⟩
              rcases Nat.lt_or_ge j k with h | h
              · exact HA.out j h
              · obtain rfl : j = k := by omega
                rw [← Hq.out]; omega
            case measure => simp [intOf]; omega
        · obtain rfl : k = n := by omega
          have hL : longB 0 parts = false := decide_eq_false (by
            rintro (h | h | ⟨p, hp, hpl⟩)
            · omega
            · rw [Hn.out] at h; omega
            · obtain ⟨i, hi, rfl⟩ := mem_getD hp
              have := HA.out i (by rw [← Hn.out]; exact hi)
              omega)
          go_wp2
          go_ret
          first | exact ⟨rfl, rfl⟩ | exact ⟨ret_bool hL.symm, rfl⟩

end Go.Proofs.YtckdkcfhkakcfaaDoor
