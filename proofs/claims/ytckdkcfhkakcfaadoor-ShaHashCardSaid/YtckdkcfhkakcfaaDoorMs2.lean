/- The walks of mac's leaves: a letter, a word, a length. -/
import Derived.Test.YtckdkcfhkakcfaaDoorRows
import Derived.Test.YtckdkcfhkakcfaaDoorAp
import Derived.WalkKit
import Derived.WalkSpells
import Derived.WalkLawsBesides
import Derived.Deep.QuietTactic
import Derived.BigQuiet
import Derived.Lib.Hide
namespace Go.Proofs.YtckdkcfhkakcfaaDoor
open Go.RowKit

def letter (c : Nat) : Bool := decide ((97 ≤ c ∧ c ≤ 122) ∨ (48 ≤ c ∧ c ≤ 57) ∨ c = 45)
theorem ret_bool {a b : Bool} (h : a = b) : Ending.returned (.bool a) = .returned (.bool b) := by rw [h]

set_option maxRecDepth 100000 in
set_option maxHeartbeats 400000 in
theorem letter_any (c : Nat) (w : World) :
    Calls Tryd.prog 61 #[.int .u8 c] w fun e w' => e = .returned (.bool (letter c)) ∧ w' = w := by
  go_enter Tryd.func61, Tryd.ntmps61
  go_wp2
  all_goals (go_ret; exact ⟨ret_bool (by unfold letter; rw [Bool.eq_iff_iff]; simp; omega), rfl⟩)

theorem getD_get (l : List Nat) (j : Nat) (h : j < l.length) : l.getD j 0 = l[j] := by
  rw [List.getD_eq_getElem?_getD, List.getElem?_eq_getElem h]; rfl
/-- Which bytes are a word. -/
def wordB (l : List Nat) : Bool := decide (1 ≤ l.length ∧ l.length ≤ 32) && l.all letter

set_option maxRecDepth 100000 in
set_option maxHeartbeats 400000 in
theorem word_any (s : ByteArray) (hs : s.size ≤ 9223372036854775807) (w : World) :
    Calls Tryd.prog 54 #[.string s] w fun e w' => e = .returned (.bool (wordB (strL s))) ∧ w' = w := by
  obtain ⟨n, hn⟩ : ∃ n, n = s.size := ⟨_, rfl⟩
  have Hn := Lib.hid hn
  have hl : (strL s).length = n := by rw [strL_len, hn]
  go_enter Tryd.func54, Tryd.ntmps54
  by_cases hn0 : 1 ≤ n ∧ n ≤ 32
  · have d1 : decide ((s.size : Int) < 1) = false := by rw [← hn]; simp; omega
    have d2 : decide ((32 : Int) < (s.size : Int)) = false := by rw [← hn]; simp; omega
    go_wp2
    go_loopw [14] (fun i wr => ∃ k : Nat, k ≤ n ∧ i = .int .i64 k ∧ wr = w ∧ ∀ j, j < k → letter ((strL s).getD j 0) = true) (fun i _ => n - (intOf i).toNat)
    case atStart => exact ⟨0, Nat.zero_le _, rfl, rfl, fun j hj => absurd hj (Nat.not_lt_zero _)⟩
    case round =>
      obtain ⟨k, hk, rfl, rfl, hall⟩ := hrel
      have HA := Lib.hid hall
      clear hall
      by_cases hkn : k < n
      · have hks : k < s.size := by omega
        have hix : (Instr.index 9 (.string s) (.int .i64 (k : Int))).run Tryd.prog wr = .ok (.int .u8 ((strL s).getD k 0 : Nat)) wr := by
          rw [run_index_string wr _ s .i64 k Tryd.underlying9, dif_pos ⟨by omega, by omega⟩, ← strL_getD s k hks]
          rfl
        have HL := Lib.hid (letter_any ((strL s).getD k 0) wr)
        have hlt : (k : Int) < (s.size : Int) := by omega
        clear hks d1 d2
        cases hb : letter ((strL s).getD k 0)
        · go_wp2_with (go_at_call 61; refine HL.out.mono ?_; rintro e w2 ⟨rfl, rfl⟩; simp only [hb])
          go_ret
          refine ⟨ret_bool ?_, rfl⟩
          rw [eq_comm, wordB, Bool.and_eq_false_iff]
          right
          rw [← Bool.not_eq_true, List.all_eq_true]
          intro h
          have := h ((strL s).getD k 0) (by rw [getD_get _ _ (by omega)]; exact List.getElem_mem _)
          rw [hb] at this
          cases this
        · go_wp2_with (go_at_call 61; refine HL.out.mono ?_; rintro e w2 ⟨rfl, rfl⟩; simp only [hb])
          go_roundw
          case rel =>
            refine ⟨k + 1, by omega, by go_num, trivial, fun j hj => ?_⟩
            rcases Nat.lt_or_ge j k with h | h
            · exact HA.out j h
            · obtain rfl : j = k := by omega
              exact hb
          case measure => simp [intOf]; omega
      · obtain rfl : k = n := by omega
        have hlt : ¬ ((k : Int) < (s.size : Int)) := by omega
        go_wp2
        go_ret
        refine ⟨ret_bool ?_, rfl⟩
        rw [eq_comm, wordB, Bool.and_eq_true, decide_eq_true_eq, hl]
        refine ⟨hn0, ?_⟩
        rw [List.all_eq_true]
        intro x hx
        obtain ⟨j, hj, rfl⟩ := List.mem_iff_getElem.1 hx
        have := HA.out j (by omega)
        rwa [getD_get _ _ hj] at this
  · have hw : wordB (strL s) = false := by
      rw [wordB, Bool.and_eq_false_iff]
      left
      rw [hl]
      exact decide_eq_false hn0
    rw [hw]
    by_cases h1 : n < 1
    · have d1 : decide ((s.size : Int) < 1) = true := by rw [← hn]; simp; omega
      go_wp2
      go_ret
      exact ⟨rfl, rfl⟩
    · have d1 : decide ((s.size : Int) < 1) = false := by rw [← hn]; simp; omega
      have d2 : decide ((32 : Int) < (s.size : Int)) = true := by rw [← hn]; simp; omega
      go_wp2
      go_ret
      exact ⟨rfl, rfl⟩
end Go.Proofs.YtckdkcfhkakcfaaDoor
