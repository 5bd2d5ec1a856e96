/- The walks of the document's septets and Put of identifiers. -/
import Derived.Test.YtpjhkmdlegjdaaaDoorIn2
import Derived.Test.YtpjhkmdlegjdaaaDoorOd8
import Derived.Test.YtpjhkmdlegjdaaaDoorMs4
import Derived.Test.YtpjhkmdlegjdaaaDoorAp
namespace Go.Proofs.YtpjhkmdlegjdaaaDoor
open Go.RowKit

namespace Od
def septStep (n i : Nat) (acc : List Nat) : List Nat := if 0 < n / 128 ^ i % 128 ∨ 0 < acc.length ∨ i = 0 then acc ++ [if 0 < i then n / 128 ^ i % 128 + 128 else n / 128 ^ i % 128] else acc
def septUpto (n : Nat) : Nat → List Nat
  | 0 => []
  | k + 1 => septStep n (5 - k) (septUpto n k)
/-- A number's bytes of seven bits. -/
def sept (n : Nat) : List Nat := septUpto n 6
theorem septUpto_len (n : Nat) : ∀ k, (septUpto n k).length ≤ k
  | 0 => by simp [septUpto]
  | k + 1 => by
    have := septUpto_len n k
    rw [septUpto, septStep]
    split
    · simp; omega
    · omega
theorem septUpto_lt (n : Nat) : ∀ k, ∀ x ∈ septUpto n k, x < 256
  | 0 => by simp [septUpto]
  | k + 1 => by
    intro x hx
    rw [septUpto, septStep] at hx
    split at hx
    · rcases List.mem_append.1 hx with h | h
      · exact septUpto_lt n k x h
      · simp only [List.mem_singleton] at h
        subst h
        have := Nat.mod_lt (n / 128 ^ (5 - k)) (show 0 < 128 by decide)
        split <;> omega
    · exact septUpto_lt n k x hx
end Od

theorem sept_shr (n j : Nat) : ((n : Int) / 2 ^ (7 * j)) = ((n / 128 ^ j : Nat) : Int) := by
  have e : ((2 : Int) ^ (7 * j)) = ((128 ^ j : Nat) : Int) := by
    rw [show (128 : Nat) = 2 ^ 7 from rfl, ← Nat.pow_mul]
    exact (Int.natCast_pow 2 (7 * j)).symm
  rw [e, Int.natCast_ediv]

set_option maxRecDepth 100000 in
set_option maxHeartbeats 1000000 in
theorem refSept_any (n : Nat) (hn : n ≤ 2147483800) (w : World) :
    Calls Tryd.prog 30 #[.int .i64 (n : Int)] w fun e w' => ∃ v, e = .returned v ∧ FrW w w' v (Od.sept n) := by
  have F0 : Hid (FrW w (w.alloc (.cells #[] 5)) (.slice (some ⟨w.heap.size, 0, none⟩) 0 0) []) := Lib.hid ⟨World.grownBy_alloc _ _ _, ownsRow_lit (alloc_at w _) (Nat.le_refl _) (by simp)⟩
  have HLe := Lib.hid (Od.septUpto_len n)
  have HSh := Lib.hid (sept_shr n)
  go_enter Tryd.func30, Tryd.ntmps30
  go_wp2
  go_loopw [3, 4] (fun out i wr => ∃ k : Nat, k ≤ 6 ∧ i = .int .i64 (5 - (k : Int)) ∧ FrW w wr out (Od.septUpto n k)) (fun _ i _ => (intOf i + 1).toNat)
  case atStart => exact ⟨0, by omega, rfl, F0.out⟩
  case round =>
    obtain ⟨k, hk, rfl, hF⟩ := hrel
    have HF := Lib.hid hF
    clear hF
    by_cases hk6 : k < 6
    · obtain ⟨j, hj⟩ : ∃ j, k + j = 5 := ⟨5 - k, by omega⟩
      have hjk : (5 : Int) - (k : Int) = (j : Int) := by omega
      obtain ⟨out, ob, oc, hout, _⟩ := ownsRow_form HF.out.own
      subst hout
      rw [hjk]
      obtain ⟨p, hp⟩ : ∃ p, p = n / 128 ^ j % 128 := ⟨_, rfl⟩
      have hp128 : p < 128 := by rw [hp]; exact Nat.mod_lt _ (by decide)
      have hpe : ((n : Int) / 2 ^ (7 * j)).tmod 128 = (p : Int) := by
        rw [HSh.out, Int.tmod_eq_emod_of_nonneg (Int.natCast_nonneg _), hp, Int.natCast_emod]
        rfl
      have hst : Od.septUpto n (k + 1) = if 0 < p ∨ 0 < (Od.septUpto n k).length ∨ j = 0 then Od.septUpto n k ++ [if 0 < j then p + 128 else p] else Od.septUpto n k := by
        rw [Od.septUpto, Od.septStep, show 5 - k = j by omega, ← hp]
      have HAl : Hid ((Od.septUpto n k).length ≤ 6) := Lib.hid (by have := HLe.out k; omega)
      generalize Od.septUpto n k = acc at *
      have hst2 := hst
      clear hst
      have HNn := Lib.hid hn
      clear hp hn
      by_cases hj0 : j = 0
      · subst hj0
        have hpe1 : (n : Int).tmod 128 = (p : Int) := by simpa using hpe
        have hpe0 : (n : Int) % 128 = (p : Int) := by rw [← hpe1, Int.tmod_eq_emod_of_nonneg (by omega)]
        clear hpe
        rw [if_pos (.inr (.inr rfl)), if_neg (by omega)] at hst2
        have HSt : Hid (Od.septUpto n (k + 1) = acc ++ [p]) := Lib.hid hst2
        clear hst2
        by_cases hp0 : 0 < p
        · go_wp2_with (at_builtin; refine wpList_app1 (by rfl) (.tmp 32) (.tmp 35) 30 (by rfl) w.heap.size 5 (.int .u8 0) 1 Tryd.underlying30 (by kernel_rfl) rfl (by decide) _ acc.length (cellsL acc) (by rfl) (HF.out.own.alloc _) ⟨_, 0, none⟩ (.int .u8 ((p : Int))) (by rfl) (cell_blk (alloc_at _ _) 0 rfl) rfl (by have := HAl.out; omega) (by have := HF.out.le; rw [alloc_size]; omega) ?_; intro v' w3 ho3 hg3; have F3 := Lib.hid ((HF.out.alloc _).step (l' := acc ++ [p]) ho3 hg3 (by rw [cellsL_append]; rfl)); clear ho3 hg3)
          go_roundw
          case rel => exact ⟨k + 1, by omega, by go_num, by rw [HSt.out]; exact F3.out⟩
          case measure => simp [intOf] <;> omega
        · obtain rfl : p = 0 := by omega
          by_cases hl0 : 0 < acc.length
          · go_wp2_with (at_builtin; refine wpList_app1 (by rfl) (.tmp 32) (.tmp 35) 30 (by rfl) w.heap.size 5 (.int .u8 0) 1 Tryd.underlying30 (by kernel_rfl) rfl (by decide) _ acc.length (cellsL acc) (by rfl) (HF.out.own.alloc _) ⟨_, 0, none⟩ (.int .u8 (((0 : Nat) : Int))) (by rfl) (cell_blk (alloc_at _ _) 0 rfl) rfl (by have := HAl.out; omega) (by have := HF.out.le; rw [alloc_size]; omega) ?_; intro v' w3 ho3 hg3; have F3 := Lib.hid ((HF.out.alloc _).step (l' := acc ++ [0]) ho3 hg3 (by rw [cellsL_append]; rfl)); clear ho3 hg3)
            go_roundw
            case rel => exact ⟨k + 1, by omega, by go_num, by rw [HSt.out]; exact F3.out⟩
            case measure => simp [intOf] <;> omega
          · go_wp2_with (at_builtin; refine wpList_app1 (by rfl) (.tmp 32) (.tmp 35) 30 (by rfl) w.heap.size 5 (.int .u8 0) 1 Tryd.underlying30 (by kernel_rfl) rfl (by decide) _ acc.length (cellsL acc) (by rfl) (HF.out.own.alloc _) ⟨_, 0, none⟩ (.int .u8 (((0 : Nat) : Int))) (by rfl) (cell_blk (alloc_at _ _) 0 rfl) rfl (by have := HAl.out; omega) (by have := HF.out.le; rw [alloc_size]; omega) ?_; intro v' w3 ho3 hg3; have F3 := Lib.hid ((HF.out.alloc _).step (l' := acc ++ [0]) ho3 hg3 (by rw [cellsL_append]; rfl)); clear ho3 hg3)
            go_roundw
            case rel => exact ⟨k + 1, by omega, by go_num, by rw [HSt.out]; exact F3.out⟩
            case measure => simp [intOf] <;> omega
      · by_cases hp0 : 0 < p
        · rw [if_pos (.inl hp0), if_pos (by omega)] at hst2
          have HSt : Hid (Od.septUpto n (k + 1) = acc ++ [p + 128]) := Lib.hid hst2
          clear hst2
          go_wp2_with (at_builtin; refine wpList_app1 (by rfl) (.tmp 32) (.tmp 35) 30 (by rfl) w.heap.size 5 (.int .u8 0) 1 Tryd.underlying30 (by kernel_rfl) rfl (by decide) _ acc.length (cellsL acc) (by rfl) (HF.out.own.alloc _) ⟨_, 0, none⟩ (.int .u8 (((p : Int) + 128))) (by rfl) (cell_blk (alloc_at _ _) 0 rfl) rfl (by have := HAl.out; omega) (by have := HF.out.le; rw [alloc_size]; omega) ?_; intro v' w3 ho3 hg3; have F3 := Lib.hid ((HF.out.alloc _).step (l' := acc ++ [p + 128]) ho3 hg3 (by rw [cellsL_append]; rfl)); clear ho3 hg3)
          go_roundw
          case rel => exact ⟨k + 1, by omega, by go_num, by rw [HSt.out]; exact F3.out⟩
          case measure => simp [intOf] <;> omega
        · obtain rfl : p = 0 := by omega
          by_cases hl0 : 0 < acc.length
          · rw [if_pos (.inr (.inl hl0)), if_pos (by omega)] at hst2
            have HSt : Hid (Od.septUpto n (k + 1) = acc ++ [0 + 128]) := Lib.hid hst2
            clear hst2
            go_wp2_with (at_builtin; refine wpList_app1 (by rfl) (.tmp 32) (.tmp 35) 30 (by rfl) w.heap.size 5 (.int .u8 0) 1 Tryd.underlying30 (by kernel_rfl) rfl (by decide) _ acc.length (cellsL acc) (by rfl) (HF.out.own.alloc _) ⟨_, 0, none⟩ (.int .u8 (((0 : Nat) : Int) + 128)) (by rfl) (cell_blk (alloc_at _ _) 0 rfl) rfl (by have := HAl.out; omega) (by have := HF.out.le; rw [alloc_size]; omega) ?_; intro v' w3 ho3 hg3; have F3 := Lib.hid ((HF.out.alloc _).step (l' := acc ++ [0 + 128]) ho3 hg3 (by rw [cellsL_append]; rfl)); clear ho3 hg3)
            go_roundw
            case rel => exact ⟨k + 1, by omega, by go_num, by rw [HSt.out]; exact F3.out⟩
            case measure => simp [intOf] <;> omega
          · rw [if_neg (by omega)] at hst2
            have HSt : Hid (Od.septUpto n (k + 1) = acc) := Lib.hid hst2
            clear hst2
            go_wp2
            go_roundw
            case rel => exact ⟨k + 1, by omega, by go_num, by rw [HSt.out]; exact HF.out⟩
            case measure => simp [intOf] <;> omega
    · obtain rfl : k = 6 := by omega
      go_wp2
      go_ret
      exact ⟨_, rfl, HF.out⟩
end Go.Proofs.YtpjhkmdlegjdaaaDoor
