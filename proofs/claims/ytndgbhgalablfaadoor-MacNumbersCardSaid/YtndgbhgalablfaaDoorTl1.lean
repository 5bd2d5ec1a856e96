/- The walks of tlv's leaves: tags, how long a length is, the number of bytes. -/
import Derived.Test.YtndgbhgalablfaaDoorChecked
import Derived.Test.YtndgbhgalablfaaDoorTl0
import Derived.WalkKit
import Derived.Deep.QuietTactic
import Derived.BigQuiet
import Derived.Lib.Hide
import Derived.Lib.BitFns
import Derived.Test.YtndgbhgalablfaaDoorBits
import Derived.Laws.BitsAllLaws
namespace Go.Proofs.YtndgbhgalablfaaDoor
open Go.RowKit

theorem ret_boolT {a b : Bool} (h : a = b) : Ending.returned (.bool a) = .returned (.bool b) := by rw [h]

set_option maxRecDepth 100000 in
theorem ctx_any (t : Int) (w : World) :
    Calls Tryd.prog 47 #[.int .i64 t] w fun e w' => e = .returned (.bool (decide (160 ≤ t) && decide (t < 176))) ∧ w' = w := by
  go_enter Tryd.func47, Tryd.ntmps47
  go_wp2
  all_goals (go_ret; exact ⟨ret_boolT (by rw [Bool.eq_iff_iff]; simp <;> omega), rfl⟩)

set_option maxRecDepth 100000 in
theorem made_any (t : Int) (w : World) :
    Calls Tryd.prog 31 #[.int .i64 t] w fun e w' => e = .returned (.bool (Tl.made t)) ∧ w' = w := by
  go_enter Tryd.func31, Tryd.ntmps31
  go_wp2_with (go_at_call 47; refine (ctx_any t _).mono ?_; rintro e w2 ⟨rfl, rfl⟩)
  all_goals (go_ret; exact ⟨ret_boolT (by rw [Bool.eq_iff_iff]; simp [Tl.made] <;> omega), rfl⟩)

set_option maxRecDepth 100000 in
theorem known_any (t : Int) (w : World) :
    Calls Tryd.prog 30 #[.int .i64 t] w fun e w' => e = .returned (.bool (Tl.known t)) ∧ w' = w := by
  have HM := Lib.hid (made_any t w)
  have HK : Hid (Tl.made t = true → Tl.known t = true) := Lib.hid (fun h => by rw [Tl.known, h]; rfl)
  go_enter Tryd.func30, Tryd.ntmps30
  generalize hm : Tl.made t = m at *
  have Hm := Lib.hid hm
  clear hm
  go_wp2_with (go_at_call 31; refine HM.out.mono ?_; rintro e w2 ⟨rfl, rfl⟩)
  all_goals (go_ret; refine ⟨ret_boolT ?_, rfl⟩; unfold Tl.known; rw [Hm.out, Bool.eq_iff_iff]; simp only [beq_iff_eq, beq_eq_false_iff_ne] at *; simp <;> omega)

theorem bitLen_pos8 : ∀ n : Fin 256, 1 ≤ n.val → 1 ≤ Lib.bitLen n.val := by decide +kernel
theorem bitLen_128 : ∀ n : Fin 256, 128 ≤ n.val → Lib.bitLen n.val = 8 := by decide +kernel
theorem more_bits (n : Nat) (h : 128 ≤ n) (hn : n < 4294967296) : ((Lib.bitLen n : Int) + 7) / 8 = (Tl.more n : Nat) := by
  unfold Tl.more
  rw [if_neg (by omega)]
  split
  · have := bitLen_128 ⟨n, by omega⟩ h
    simp only at this
    omega
  · split
    · have s := Lib.bitLen_shift8 n (by omega) (by omega)
      have a := bitLen_pos8 ⟨n / 256, by omega⟩ (by show 1 ≤ n / 256; omega)
      have b := Lib.bitLen_le8 ⟨n / 256, by omega⟩
      simp only at a b
      omega
    · split
      · have s := Lib.bitLen_shift16 n (by omega) (by omega)
        have a := bitLen_pos8 ⟨n / 65536, by omega⟩ (by show 1 ≤ n / 65536; omega)
        have b := Lib.bitLen_le8 ⟨n / 65536, by omega⟩
        simp only at a b
        omega
      · have s := Lib.bitLen_shift24 n (by omega) (by omega)
        have a := bitLen_pos8 ⟨n / 16777216, by omega⟩ (by show 1 ≤ n / 16777216; omega)
        have b := Lib.bitLen_le8 ⟨n / 16777216, by omega⟩
        simp only at a b
        omega

set_option maxRecDepth 100000 in
theorem more_any (n : Nat) (hn : n < 4294967296) (w : World) :
    Calls Tryd.prog 42 #[.int .i64 n] w fun e w' => e = .returned (.int .i64 (Tl.more n : Nat)) ∧ w' = w := by
  have HL := Lib.hid (blen_any n hn w)
  have HB : Hid (128 ≤ n → ((Lib.bitLen n : Int) + 7) / 8 = (Tl.more n : Nat)) := Lib.hid (fun h => more_bits n h hn)
  have hle : Lib.bitLen n ≤ 64 := Lib.bitLen_le n 64 (by decide) (by omega)
  have HZ : Hid (n < 128 → Tl.more n = 0) := Lib.hid (fun h => by unfold Tl.more; rw [if_pos h])
  generalize Lib.bitLen n = b at *
  generalize Tl.more n = m at *
  go_enter Tryd.func42, Tryd.ntmps42
  go_wp2_with (go_at_call 61; refine HL.out.mono ?_; rintro e w' ⟨rfl, rfl⟩)
  · go_ret
    exact ⟨congrArg Ending.returned (congrArg (Value.int IntKind.i64) (by rw [HZ.out (by omega)]; rfl)), rfl⟩
  · go_ret
    exact ⟨congrArg Ending.returned (congrArg (Value.int IntKind.i64) (HB.out (by omega))), rfl⟩

set_option maxRecDepth 100000 in
theorem size_anyT (n : Int) (w : World) :
    Calls Tryd.prog 25 #[.int .i64 n] w fun e w' => e = .returned (.int .i64 (Tl.size n : Nat)) ∧ w' = w := by
  by_cases h : 0 ≤ n ∧ n ≤ 65530
  · obtain ⟨k, rfl⟩ : ∃ k : Nat, n = k := ⟨n.toNat, by omega⟩
    have HM := Lib.hid (more_any k (by omega) w)
    have hm4 := Tl.more_le k
    have HS : Hid (Tl.size (k : Int) = 2 + Tl.more k + k) := Lib.hid (by rw [Tl.size, if_pos h, Int.toNat_natCast])
    obtain ⟨h1, h2⟩ := h
    have d1 : ((k : Int) < 0) = False := by simp
    generalize Tl.more k = m at *
    go_enter Tryd.func25, Tryd.ntmps25
    go_wp2_with (go_at_call 42; refine HM.out.mono ?_; rintro e w' ⟨rfl, rfl⟩)
    all_goals (go_ret; exact ⟨congrArg Ending.returned (congrArg (Value.int IntKind.i64) (by rw [HS.out]; go_num)), rfl⟩)
  · have HS : Hid (Tl.size n = 0) := Lib.hid (by rw [Tl.size, if_neg h])
    go_enter Tryd.func25, Tryd.ntmps25
    go_wp2_with (fail)
    all_goals first
      | (go_ret; exact ⟨congrArg Ending.returned (congrArg (Value.int IntKind.i64) (by rw [HS.out]; rfl)), rfl⟩)
      | (exfalso; omega)
end Go.Proofs.YtndgbhgalablfaaDoor
