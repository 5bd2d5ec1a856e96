/- Walks of the leaves of sha: a word turned, the two sigmas. -/
import Derived.Test.YtndgbhgalablfaaDoorRows
import Derived.Test.YtndgbhgalablfaaDoorShaM
import Derived.Test.YtndgbhgalablfaaDoorLib
import Derived.WalkKit
import Derived.WalkSpells
import Derived.WalkLawsBesides
import Derived.Deep.QuietTactic
import Derived.BigQuiet
import Derived.Lib.Hide
namespace Go.Proofs.YtndgbhgalablfaaDoor
open Go.RowKit

theorem rot_count (k : Nat) (h0 : 0 < k) (h1 : k < 32) : bits .and .u64 (IntKind.u64.wrap (-(k : Int))) 31 = ((32 - k : Nat) : Int) := by
  have : ∀ k : Fin 32, 0 < k.val → bits .and .u64 (IntKind.u64.wrap (-(k.val : Int))) 31 = ((32 - k.val : Nat) : Int) := by decide +kernel
  exact this ⟨k, h1⟩ h0

theorem rot_out (x k s : Nat) (hx : x < 4294967296) (hk : 0 < k) (hk2 : k < 32) (hs : s = 32 - k) :
    bits .or .u32 ((x : Int) * 2 ^ s % 4294967296) ((x : Int) / 2 ^ (32 - s)) = ((Sha.rotr x k : Nat) : Int) := by
  have e1 : (x : Int) * 2 ^ s % 4294967296 = ((x * 2 ^ s % 4294967296 : Nat) : Int) := by simp
  have e2 : (x : Int) / 2 ^ (32 - s) = ((x / 2 ^ (32 - s) : Nat) : Int) := by simp
  rw [e1, e2, u32_or_nat _ _ (Nat.mod_lt _ (by decide)) (Sha.div_lt _ _ hx)]
  have : 32 - s = k := by omega
  rw [this, hs]; rfl

set_option maxHeartbeats 400000 in
theorem rot_any (x k : Nat) (hx2 : x < 4294967296) (hk : 0 < k) (hk2 : k < 32) (w : World) :
    Calls Tryd.prog 80 #[.int .u32 x, .int .i64 (-(k : Int))] w fun e w' => e = .returned (.int .u32 (Sha.rotr x k)) ∧ w = w' := by
  have hb := rot_count k hk hk2
  obtain ⟨s, hs⟩ : ∃ s, s = 32 - k := ⟨_, rfl⟩
  rw [← hs] at hb
  have s1 : s < 32 := by omega
  have s2 : 0 < s := by omega
  have Hs := Lib.hid hs
  clear hs
  go_enter Tryd.func80, Tryd.ntmps80
  go_wp2
  go_ret
  exact ⟨ret_int (rot_out x k s hx2 hk hk2 Hs.out), rfl⟩

theorem high_out (x i j k : Nat) (hx : x < 4294967296) :
    bits .xor .u32 (bits .xor .u32 (Sha.rotr x i) (Sha.rotr x j)) (Sha.rotr x k) = ((Sha.high x i j k : Nat) : Int) := by
  rw [u32_xor_nat _ _ (Sha.rotr_lt _ _ hx) (Sha.rotr_lt _ _ hx), u32_xor_nat _ _ (Sha.xor_lt (Sha.rotr_lt _ _ hx) (Sha.rotr_lt _ _ hx)) (Sha.rotr_lt _ _ hx)]; rfl

set_option maxHeartbeats 400000 in
theorem high_any (x i j k : Nat) (hx2 : x < 4294967296) (hi : 0 < i) (hi2 : i < 32) (hj : 0 < j) (hj2 : j < 32) (hk : 0 < k) (hk2 : k < 32) (w : World) :
    Calls Tryd.prog 78 #[.int .u32 x, .int .i64 i, .int .i64 j, .int .i64 k] w fun e w' => e = .returned (.int .u32 (Sha.high x i j k)) ∧ w = w' := by
  go_enter Tryd.func78, Tryd.ntmps78
  go_wp2_with (go_at_call 80; refine (rot_any x _ hx2 (by omega) (by omega) _).mono ?_; rintro e w' ⟨rfl, rfl⟩)
  go_ret
  exact ⟨ret_int (high_out x i j k hx2), rfl⟩

theorem low_out (x i j k : Nat) (hx : x < 4294967296) :
    bits .xor .u32 (bits .xor .u32 (Sha.rotr x i) (Sha.rotr x j)) ((x : Int) / 2 ^ k) = ((Sha.low x i j k : Nat) : Int) := by
  rw [show (x : Int) / 2 ^ k = ((x / 2 ^ k : Nat) : Int) from by simp, u32_xor_nat _ _ (Sha.rotr_lt _ _ hx) (Sha.rotr_lt _ _ hx), u32_xor_nat _ _ (Sha.xor_lt (Sha.rotr_lt _ _ hx) (Sha.rotr_lt _ _ hx)) (Sha.div_lt _ _ hx)]; rfl

set_option maxHeartbeats 400000 in
theorem low_any (x i j k : Nat) (hx2 : x < 4294967296) (hi : 0 < i) (hi2 : i < 32) (hj : 0 < j) (hj2 : j < 32) (hk : 0 < k) (hk2 : k < 32) (w : World) :
    Calls Tryd.prog 79 #[.int .u32 x, .int .i64 i, .int .i64 j, .int .i64 k] w fun e w' => e = .returned (.int .u32 (Sha.low x i j k)) ∧ ∃ n, w' = w.drewN n := by
  go_enter Tryd.func79, Tryd.ntmps79
  go_wp2
  go_quiet ((go_at_call 80; exact Calls.quiet_of_same ((rot_any x _ hx2 (by omega) (by omega) _).mono fun e w' ⟨h1, h2⟩ => ⟨h1, h2.symm⟩)))
  go_wp2
  go_ret
  exact ⟨ret_int (low_out x i j k hx2), _, rfl⟩

theorem low7 (x m : Nat) (hx : x < 4294967296) (w : World) : Calls Tryd.prog 79 #[.int .u32 x, .int .i64 7, .int .i64 18, .int .i64 3] (w.drewN m) fun e w' => e = .returned (.int .u32 (Sha.low x 7 18 3)) ∧ ∃ n, w' = w.drewN n :=
  (low_any x 7 18 3 hx (by omega) (by omega) (by omega) (by omega) (by omega) (by omega) (w.drewN m)).mono fun _ _ ⟨h1, n, h2⟩ => ⟨h1, m + n, h2.trans (World.drewN_drewN _ _ _)⟩
theorem low17 (x m : Nat) (hx : x < 4294967296) (w : World) : Calls Tryd.prog 79 #[.int .u32 x, .int .i64 17, .int .i64 19, .int .i64 10] (w.drewN m) fun e w' => e = .returned (.int .u32 (Sha.low x 17 19 10)) ∧ ∃ n, w' = w.drewN n :=
  (low_any x 17 19 10 hx (by omega) (by omega) (by omega) (by omega) (by omega) (by omega) (w.drewN m)).mono fun _ _ ⟨h1, n, h2⟩ => ⟨h1, m + n, h2.trans (World.drewN_drewN _ _ _)⟩
end Go.Proofs.YtndgbhgalablfaaDoor
