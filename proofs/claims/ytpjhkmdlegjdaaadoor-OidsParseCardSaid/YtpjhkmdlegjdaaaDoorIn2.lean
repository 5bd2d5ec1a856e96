/- The walk of bullanum's SameInts. -/
import Derived.Test.YtpjhkmdlegjdaaaDoorIn1
import Derived.Test.YtpjhkmdlegjdaaaDoorChecked
import Derived.WalkKit
import Derived.BigQuiet
import Derived.Lib.Hide
namespace Go.Proofs.YtpjhkmdlegjdaaaDoor
open Go.RowKit
set_option linter.unusedVariables false

theorem retBo {a b : Bool} (h : a = b) : Ending.returned (.bool a) = .returned (.bool b) := by rw [h]

set_option maxRecDepth 100000 in
set_option maxHeartbeats 1000000 in
theorem sameI_any (v1 v2 : Value) (l m : List Int) (w : World) (h1 : Ints w v1 l) (h2 : Ints w v2 m) (hl : l.length ≤ 1099511627776) (hm : m.length ≤ 1099511627776) :
    Calls Tryd.prog 11 #[v1, v2] w fun e w' => e = .returned (.bool (decide (l = m))) ∧ ∃ q, w' = w.drewN q := by
  obtain ⟨a1, g1, o1, c1, rfl, k1, k2, k3⟩ := h1
  obtain ⟨a2, g2, o2, c2, rfl, m1, m2, m3⟩ := h2
  by_cases hlen : l.length = m.length
  · have K2 := Lib.hid k2
    have K3 := Lib.hid k3
    rw [← hlen] at m1 m2 m3 ⊢
    have M2 := Lib.hid m2
    have M3 := Lib.hid m3
    have HT : Hid ((∀ j, j < l.length → l.getD j 0 = m.getD j 0) → decide (l = m) = true) := Lib.hid (fun h => decide_eq_true (List.ext_getElem hlen (fun j h1 h2 => by
      have := h j h1
      rw [List.getD_eq_getElem?_getD, List.getD_eq_getElem?_getD, List.getElem?_eq_getElem h1, List.getElem?_eq_getElem h2] at this
      simpa using this)))
    have HF : Hid (∀ j, l.getD j 0 ≠ m.getD j 0 → decide (l = m) = false) := Lib.hid (fun j h => decide_eq_false (fun e => h (by rw [e])))
    obtain ⟨n, hn⟩ : ∃ n, n = l.length := ⟨_, rfl⟩
    rw [← hn] at K2 K3 M2 M3 hl k1 m1 HT ⊢
    clear hn k2 k3 m2 m3 hm hlen
    generalize decide (l = m) = D at *
    go_enter Tryd.func11, Tryd.ntmps11
    go_wp2
    go_loopw [13] (fun i wr => ∃ k q : Nat, k ≤ n ∧ i = .int .i64 k ∧ wr = w.drewN q ∧ ∀ j, j < k → l.getD j 0 = m.getD j 0) (fun i _ => n - (intOf i).toNat)
    case atStart => exact ⟨0, 0, Nat.zero_le _, rfl, rfl, fun j hj => absurd hj (Nat.not_lt_zero _)⟩
    case round =>
      obtain ⟨k, q, hk, rfl, rfl, hall⟩ := hrel
      have HAll := Lib.hid hall
      clear hall
      by_cases hlt : k < n
      · obtain ⟨rfl, _⟩ := K2.out (by omega)
        obtain ⟨rfl, _⟩ := M2.out (by omega)
        have f1 := K3.out k hlt
        have f2 := M3.out k hlt
        by_cases hxy : l.getD k 0 = m.getD k 0
        · have HXY := Lib.hid hxy
          rw [← hxy] at f2
          clear hxy
          generalize hx : l.getD k 0 = x at *
          have hb : (x != x) = false := by simp
          have HX := Lib.hid hx
          clear hx
          go_wp2
          go_quiet (fail)
          go_wp2
          go_roundw
          case rel => exact ⟨k + 1, _, by omega, by go_num, rfl, fun j hj => (by
            rcases Nat.lt_or_ge j k with h | h
            · exact HAll.out j h
            · obtain rfl : j = k := by omega
              rw [HX.out]; exact HXY.out)⟩
          case measure => simp [intOf]; omega
        · have hD := HF.out k hxy
          generalize l.getD k 0 = x at *
          generalize m.getD k 0 = y at *
          have hb : (x != y) = true := by simp [hxy]
          clear hxy
          go_wp2
          go_quiet (fail)
          go_wp2
          go_ret
          exact ⟨retBo hD.symm, q + nq, by simp [World.drewN, Nat.add_assoc]⟩
      · obtain rfl : k = n := by omega
        have hD := HT.out HAll.out
        go_wp2
        go_ret
        exact ⟨retBo hD.symm, _, rfl⟩
  · have hD : decide (l = m) = false := decide_eq_false (fun e => hlen (by rw [e]))
    rw [hD]
    clear hD k2 k3 m2 m3
    generalize l.length = n at *
    generalize m.length = n' at *
    have hb : ((n : Int) != (n' : Int)) = true := by simp; omega
    go_enter Tryd.func11, Tryd.ntmps11
    go_wp2
    go_ret
    exact ⟨rfl, 0, rfl⟩
end Go.Proofs.YtpjhkmdlegjdaaaDoor
