/- The model's order of texts is that of their bytes. -/
import Derived.Test.YtepjjgplnmkjgaaDoorCa1
import Derived.Test.YtepjjgplnmkjgaaDoorAp
namespace Go.Proofs.YtepjjgplnmkjgaaDoor
open Go.RowKit
theorem bytesLess_lex : ∀ (x y : List UInt8), Op.bytesLess x y = Cal.lex (x.map (·.toNat)) (y.map (·.toNat))
  | [], [] => rfl
  | _ :: _, [] => rfl
  | [], _ :: _ => rfl
  | a :: x, b :: y => by
    have h := bytesLess_lex x y
    rw [Op.bytesLess, List.map_cons, List.map_cons, Cal.lex, h]
    by_cases e : a = b
    · subst e
      simp
    · have e2 : ¬ a.toNat = b.toNat := fun h => e (UInt8.toNat_inj.1 h)
      rw [if_neg e2]
      simp [e, UInt8.lt_iff_toNat_lt]
theorem str_less (s t : ByteArray) : Op.bytesLess s.toList t.toList = Cal.lex (strL s) (strL t) := by
  rw [ByteArray.toList_eq, ByteArray.toList_eq, bytesLess_lex]
  rfl
end Go.Proofs.YtepjjgplnmkjgaaDoor
