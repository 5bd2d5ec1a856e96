/- A piece of a digest's figures. -/
import Derived.Test.YtndgbhgalablfaaDoorTx2
namespace Go.Proofs.YtndgbhgalablfaaDoor
open Go.RowKit

theorem hexL_take2 (l : List Nat) : ∀ k, hexL (l.take k) = (hexL l).take (2 * k) := by
  induction l with
  | nil => intro k; simp [hexL]
  | cons a r ih =>
    intro k
    match k with
    | 0 => simp [hexL]
    | k + 1 =>
      rw [show 2 * (k + 1) = 2 * k + 1 + 1 by omega]
      simp [hexL, ih k]
theorem strOf_take (l : List Nat) (n : Nat) : (strOf l).extract 0 n = strOf (l.take n) := by
  apply ByteArray.ext
  simp [strOf, ByteArray.data_extract, List.map_take]

theorem id_slice (d : List Nat) (hd : d.length = 32) (X : ByteArray) (hX : X = strOf (hexL d)) (W : World) : (Instr.slice 9 (.string X) none (some (.int .i64 32)) none).run Tryd.prog W = .ok (.string (strOf (hexL (d.take 16)))) W := by
  have hs : X.size = 64 := by rw [hX, strOf_size, hexL_len, hd]
  rw [run_slice_string_to_if (P := Tryd.prog) W 9 X .i64 32 Tryd.underlying9, if_pos (by rw [hs]; decide)]
  rw [hexL_take2, ← strOf_take, hX]
  rfl
theorem id_slice' (d : List Nat) (hd : d.length = 32) (X : ByteArray) (hX : X = strOf (hexL d)) (W : World) : (Instr.sliceAt 9 (.string X) none (some (.int .i64 32)) none).run Tryd.prog W = .ok (.string (strOf (hexL (d.take 16)))) W := by
  rw [run_sliceAt_string _ _ _ _ _ _ Tryd.underlying9]
  exact id_slice d hd X hX W

end Go.Proofs.YtndgbhgalablfaaDoor
