/- The document's constants are the standard's: reckoned by the kernel. -/
import Derived.Test.YtckdkcfhkakcfaaDoorCoM
namespace Go.Proofs.YtckdkcfhkakcfaaDoor
namespace Co
def table : List Nat := [1116352408, 1899447441, 3049323471, 3921009573, 961987163, 1508970993, 2453635748, 2870763221, 3624381080, 310598401, 607225278, 1426881987, 1925078388, 2162078206, 2614888103, 3248222580, 3835390401, 4022224774, 264347078, 604807628, 770255983, 1249150122, 1555081692, 1996064986, 2554220882, 2821834349, 2952996808, 3210313671, 3336571891, 3584528711, 113926993, 338241895, 666307205, 773529912, 1294757372, 1396182291, 1695183700, 1986661051, 2177026350, 2456956037, 2730485921, 2820302411, 3259730800, 3345764771, 3516065817, 3600352804, 4094571909, 275423344, 430227734, 506948616, 659060556, 883997877, 958139571, 1322822218, 1537002063, 1747873779, 1955562222, 2024104815, 2227730452, 2361852424, 2428436474, 2756734187, 3204031479, 3329325298]
theorem outN_mono : ∀ k d, (outN k).length ≤ (outN (k + d)).length
  | _, 0 => Nat.le_refl _
  | k, d + 1 => Nat.le_trans (outN_mono k d) (by
    rw [show k + (d + 1) = (k + d) + 1 by omega, outN]
    split
    · simp
    · exact Nat.le_refl _)
theorem out309 : (outN 309).length = 63 := by decide +kernel
theorem out310 : outN 310 = table := by decide +kernel
theorem out_lt (k : Nat) (h : k ≤ 309) : (outN k).length < 64 := by
  have := outN_mono k (309 - k)
  rw [show k + (309 - k) = 309 by omega, out309] at this
  omega
end Co
end Go.Proofs.YtckdkcfhkakcfaaDoor
