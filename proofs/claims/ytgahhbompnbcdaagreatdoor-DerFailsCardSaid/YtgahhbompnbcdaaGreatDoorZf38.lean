import Derived.Test.YtgahhbompnbcdaaGreatDoorZf03
import Derived.Test.YtgahhbompnbcdaaGreatDoorZf05
import Derived.Test.YtgahhbompnbcdaaGreatDoorZf51
import Derived.Test.YtgahhbompnbcdaaGreatDoorZf08
import Derived.Test.YtgahhbompnbcdaaGreatDoorZf19
import Derived.Test.YtgahhbompnbcdaaGreatDoorZf30
import Derived.Test.YtgahhbompnbcdaaGreatDoorZf36
import Derived.Laws.IdiomCopy
set_option linter.unusedVariables false
set_option linter.unusedSimpArgs false
namespace Go.Proofs.YtgahhbompnbcdaaGreatDoor
open Go.RowKit
set_option linter.unusedVariables false
set_option maxRecDepth 100000 in
theorem flags_any (A : Nat → Addr) (w : World) (hR : RngErr w A) : TxFlags A w := by
  intro m W hm hg
  have hR' := (hR.grown hg).range
  unfold inT at hm
  by_cases h0 : isMk m
  · simp only [if_pos h0]
    unfold isMk at h0
    obtain ⟨k, rfl⟩ := Int.eq_ofNat_of_zero_le h0.1
    have hk : k < 32768 := by omega
    rw [Int.toNat_natCast]
    have hL := blen_any k (by omega) W
    rw [Pt.bitLen_size hk] at hL
    have hs : Pt.size k ≤ 15 := Pt.size_le_of (k := 15) (by omega)
    have h16 := fun W => rev16_any k (by omega) W
    have hF := Pt.flags_two hk
    have r1 := Pt.rev8_lt (k % 256)
    have r2 := Pt.rev8_lt (k / 256)
    have u1 : IntKind.u64.wrap (k : Int) = k := by rw [IntKind.wrap_u64]; omega
    have u2 : IntKind.u16.wrap (k : Int) = k := by rw [IntKind.wrap_u16]; omega
    generalize Pt.flags k = F at *
    generalize Pt.size k = s at *
    generalize Pt.rev8 (k % 256) = x at *
    generalize Pt.rev8 (k / 256) = y at *
    have HF := Lib.hid hF
    clear hF hR' hR hg
    have n1 : ¬ (k : Int) < 0 := by omega
    have n2 : ¬ (32767 : Int) < (k : Int) := by omega
    go_enter Tryz.func98, Tryz.ntmps98
    go_wp2_with (first
      | (go_at_call 145; refine hL.mono ?_; rintro e w1 ⟨rfl, rfl⟩)
      | (go_at_call 146; refine (h16 _).mono ?_; rintro e w1 ⟨rfl, q, rfl⟩))
    go_ret2
    have e1 : ((s : Int) + 8 - 1) / 8 * 8 - s = ((8 * ((s + 7) / 8) - s : Nat) : Int) := by omega
    have e2 : ((y : Int) + 256 * x) / 256 = (x : Nat) := by omega
    have e3 : ((y : Int) + 256 * x) % 256 = (y : Nat) := by omega
    have e4 : 1 + (s + 8 - 1) / 8 = 1 + (s + 7) / 8 := by omega
    have hlen : F.length = 1 + (s + 7) / 8 := by rw [HF.out, List.length_take, List.length_cons, List.length_cons, List.length_cons, List.length_nil]; omega
    have e5 : (y : Int) % 256 = (y : Nat) := by omega
    rw [e1, e2, e3, e4, e5, hlen]
    refine ⟨grown_trans (grown_drewN (grown_refl _ _) _) (World.grownBy_alloc _ _ _), _, _, rfl, ?_⟩
    have hb := Bytes.lit (t := 5) (fr := (0, 0)) (l := [8 * ((s + 7) / 8) - s, x, y]) (alloc_at (w1.drewN q) _) (by
      intro z hz
      simp at hz
      omega)
    have := hb.to (1 + (s + 7) / 8) (by simp; omega)
    rw [← HF.out] at this
    exact this
  · simp only [if_neg h0]
    unfold isMk at h0
    by_cases n1 : m < 0
    · go_enter Tryz.func98, Tryz.ntmps98
      go_wp2
      go_quiet (fail)
      go_wp2
      go_ret2
      exact ⟨grown_drewN (grown_refl _ _) _, _, _, rfl⟩
    · have n2 : (32767 : Int) < m := by omega
      go_enter Tryz.func98, Tryz.ntmps98
      go_wp2
      go_quiet (fail)
      go_wp2
      go_ret2
      exact ⟨grown_drewN (grown_refl _ _) _, _, _, rfl⟩
end Go.Proofs.YtgahhbompnbcdaaGreatDoor
