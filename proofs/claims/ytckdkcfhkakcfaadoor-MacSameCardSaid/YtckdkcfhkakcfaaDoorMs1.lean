/- The walk of mac's Same. -/
import Derived.Test.YtckdkcfhkakcfaaDoorRows
import Derived.Test.YtckdkcfhkakcfaaDoorByt
import Derived.WalkKit
import Derived.WalkSpells
import Derived.WalkLawsBesides
import Derived.Deep.QuietTactic
import Derived.BigQuiet
import Derived.Laws.BitsAllLaws
import Derived.Lib.Hide
namespace Go.Proofs.YtckdkcfhkakcfaaDoor
open Go.RowKit

theorem u8_or_xor (x a b : Nat) (hx : x < 256) (ha : a < 256) (hb : b < 256) : bits .or .u8 (x : Int) (bits .xor .u8 (a : Int) (b : Int)) = ((x ||| (a ^^^ b) : Nat) : Int) := by
  rw [u8_xor_nat a b ha hb, u8_or_nat x _ hx (Nat.xor_lt_two_pow (n := 8) (by omega) (by omega))]

theorem xor_zero {a b : Nat} : a ^^^ b = 0 ↔ a = b := by
  constructor
  · intro h
    have : a ^^^ b ^^^ b = 0 ^^^ b := by rw [h]
    simpa [Nat.xor_assoc] using this
  · rintro rfl; simp

/-- What is unlike, all of it in one byte. -/
def unl : List Nat → List Nat → Nat → Nat
  | _, _, 0 => 0
  | A, B, k + 1 => unl A B k ||| (A.getD k 0 ^^^ B.getD k 0)
theorem getD_lt' {l : List Nat} (h : ∀ x ∈ l, x < 256) (k : Nat) : l.getD k 0 < 256 := by
  rw [List.getD_eq_getElem?_getD]
  cases e : l[k]? with
  | none => simp
  | some x => exact h x (List.mem_of_getElem? e)
theorem unl_lt {A B : List Nat} (hA : ∀ x ∈ A, x < 256) (hB : ∀ x ∈ B, x < 256) : ∀ k, unl A B k < 256
  | 0 => Nat.zero_lt_succ _
  | k + 1 => Nat.or_lt_two_pow (n := 8) (unl_lt hA hB k) (Nat.xor_lt_two_pow (n := 8) (getD_lt' hA k) (getD_lt' hB k))
theorem unl_zero (A B : List Nat) : ∀ k, unl A B k = 0 ↔ ∀ j, j < k → A.getD j 0 = B.getD j 0
  | 0 => by simp [unl]
  | k + 1 => by
    rw [unl, Nat.or_eq_zero_iff, unl_zero A B k, xor_zero]
    constructor
    · rintro ⟨h1, h2⟩ j hj
      rcases Nat.lt_or_ge j k with h | h
      · exact h1 j h
      · obtain rfl : j = k := by omega
        exact h2
    · intro h
      exact ⟨fun j hj => h j (by omega), h k (by omega)⟩
theorem unl_all {A B : List Nat} (h : A.length = B.length) : decide (unl A B A.length = 0) = decide (A = B) := by
  rw [decide_eq_decide, unl_zero]
  constructor
  · intro hh
    refine List.ext_getElem h fun i h1 h2 => ?_
    have := hh i h1
    simpa [h1, h2] using this
  · rintro rfl j _; rfl

set_option maxRecDepth 100000 in
set_option maxHeartbeats 1000000 in
theorem same_any (v u : Value) (A B : List Nat) (w : World) (hA : Bytes w v A) (hB : Bytes w u B) (hm : A.length ≤ 1152921504606846976) (hm2 : B.length ≤ 1152921504606846976) :
    Calls Tryd.prog 38 #[v, u] w fun e w' => e = .returned (.bool (decide (A = B))) ∧ ∃ m, w' = w.drewN m := by
  obtain ⟨hA1, a, sa, oa, ca, rfl, hca, haa, hcA⟩ := hA
  obtain ⟨hB1, b, sb, ob, cb, rfl, hcb, hbb, hcB⟩ := hB
  obtain ⟨n, hn⟩ : ∃ n, n = A.length := ⟨_, rfl⟩
  obtain ⟨m, hm'⟩ : ∃ n, n = B.length := ⟨_, rfl⟩
  rw [← hn] at hca haa hcA hm ⊢
  rw [← hm'] at hcb hbb hcB hm2 ⊢
  have Hn := Lib.hid hn
  have Hm := Lib.hid hm'
  have HcA := Lib.hid hcA
  have HcB := Lib.hid hcB
  have Haa := Lib.hid haa
  have Hbb := Lib.hid hbb
  have HA := Lib.hid hA1
  have HB := Lib.hid hB1
  clear hn hm' hcA hcB haa hbb hA1 hB1
  go_enter Tryd.func38, Tryd.ntmps38
  by_cases hnm : n = m
  · subst hnm
    have hne : ((n : Int) != (n : Int)) = false := by simp
    go_wp2
    go_loopw [5, 14] (fun x i wr => ∃ k : Nat, k ≤ n ∧ i = .int .i64 k ∧ x = .int .u8 (unl A B k : Nat) ∧ ∃ q, wr = w.drewN q) (fun _ i _ => n - (intOf i).toNat)
    case atStart => exact ⟨0, Nat.zero_le _, rfl, rfl, 0, rfl⟩
    case round =>
      obtain ⟨k, hk, rfl, rfl, q, rfl⟩ := hrel
      by_cases hkn : k < n
      · obtain ⟨rfl, ha2⟩ := Haa.out (by omega)
        obtain ⟨rfl, hb2⟩ := Hbb.out (by omega)
        have c1 : w.cell? ⟨sa, oa + k, none⟩ = some (.int .u8 (A.getD k 0 : Nat)) := HcA.out k hkn
        have c2 : w.cell? ⟨sb, ob + k, none⟩ = some (.int .u8 (B.getD k 0 : Nat)) := HcB.out k (by omega)
        have hx := unl_lt HA.out HB.out k
        have h1 := getD_lt' HA.out k
        have h2 := getD_lt' HB.out k
        have HU := Lib.hid (u8_or_xor _ _ _ hx h1 h2)
        have HU2 : Hid (unl A B (k + 1) = unl A B k ||| (A.getD k 0 ^^^ B.getD k 0)) := Lib.hid rfl
        generalize unl A B k = x at *
        generalize A.getD k 0 = y at *
        generalize B.getD k 0 = z at *
        go_wp2
        go_quiet (fail)
        go_wp2
        go_roundw
        case rel => exact ⟨k + 1, by omega, by go_num, by rw [HU2.out, ← HU.out], _, rfl⟩
        case measure => simp [intOf]; omega
      · obtain rfl : k = n := by omega
        go_wp2
        go_ret
        refine ⟨?_, q, rfl⟩
        have := unl_all (A := A) (B := B) (by rw [← Hn.out, ← Hm.out])
        rw [← this, ← Hn.out]
        show Ending.returned (.bool _) = Ending.returned (.bool _)
        refine congrArg (fun b => Ending.returned (.bool b)) ?_
        rw [Bool.eq_iff_iff]; simp
  · have hne : ((n : Int) != (m : Int)) = true := by simp; omega
    go_wp2
    go_ret
    refine ⟨?_, 0, rfl⟩
    show Ending.returned (.bool false) = _
    rw [decide_eq_false (fun e : A = B => hnm (by rw [Hn.out, Hm.out, e]))]
end Go.Proofs.YtckdkcfhkakcfaaDoor
