import Derived.Test.YtgahhbompnbcdaaGreatDoorZf00
import Derived.Test.YtgahhbompnbcdaaGreatDoorZf03
import Derived.Test.YtgahhbompnbcdaaGreatDoorChecked
import Derived.Lib.Strings
import Derived.Lib.Slices
import Derived.Lib.Small
import Derived.Lib.Walk
import Derived.Lib.BitFns
import Derived.Lib.ItoaNum
set_option linter.unusedVariables false
set_option linter.unusedSimpArgs false
namespace Go.Proofs.YtgahhbompnbcdaaGreatDoor
open Go.RowKit
namespace Pt
/-- A mask's body, as it is written. -/
theorem flags_two {m : Nat} (hm : m < 32768) : flags m = [8 * ((size m + 7) / 8) - size m, rev8 (m % 256), rev8 (m / 256)].take (1 + (size m + 7) / 8) := by
  unfold flags
  by_cases h0 : m = 0
  · subst h0; rfl
  · have a := size_lt m
    have b := size_pos h0
    rw [if_neg h0]
    by_cases h1 : m < 256
    · have d : size m ≤ 8 := size_le_of (k := 8) h1
      rw [if_pos h1, show (size m + 7) / 8 = 1 by omega, show m % 256 = m by omega]
      rfl
    · have d : size m ≤ 16 := size_le_of (k := 16) (by omega)
      have e : 9 ≤ size m := by
        have : 8 < size m := (Nat.pow_lt_pow_iff_right (a := 2) (by decide)).1 (by omega)
        omega
      rw [if_neg h1, show (size m + 7) / 8 = 2 by omega]
      rfl
/-- The library's count of bits is ours. -/
theorem bitLen_size {m : Nat} (hm : m < 32768) : Lib.bitLen m = size m := by
  by_cases h0 : m = 0
  · subst h0; decide
  · obtain ⟨a, b, c⟩ := Lib.bitLenAux_bounds 64 m (by omega) h0
    have e : Lib.bitLenAux 64 m = Lib.bitLen m := rfl
    rw [e] at a b c
    have h := size_is (n := m) (k := Lib.bitLen m - 1) b (by rw [show Lib.bitLen m - 1 + 1 = Lib.bitLen m by omega]; exact c)
    omega
end Pt
end Go.Proofs.YtgahhbompnbcdaaGreatDoor

