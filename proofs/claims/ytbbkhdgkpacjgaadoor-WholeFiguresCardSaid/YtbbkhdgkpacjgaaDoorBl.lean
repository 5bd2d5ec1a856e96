/- math/bits.Len by the library's contract, at this program. -/
import Derived.Test.YtbbkhdgkpacjgaaDoorSk1
namespace Go.Proofs.YtbbkhdgkpacjgaaDoor
theorem bitsLen_any (x : Int) (w : World) (h0 : 0 ≤ x) (h1 : x ≤ 18446744073709551615) :
    Calls Tryd.prog 24 #[.int .u64 x] w fun e w' => e = .returned (.int .i64 (Lib.bitLen x.toNat)) ∧ w' = w := Any.bits_Len Tryd.lays125 x w h0 h1
end Go.Proofs.YtbbkhdgkpacjgaaDoor
