import Derived.Test.YtgdnndapmcjoeaaDoorKd01
import Derived.Test.YtgdnndapmcjoeaaDoorKd03
import Derived.Lib.ConvBytes
import Derived.WalkKit
namespace Go.Proofs.YtgdnndapmcjoeaaDoor
open Go.RowKit
section
variable {P : Program} {ops : Array Oper} {rest : List Oper} {o : Oper} {a : Act} {w : World} {Q : Exit → Act → World → Prop}
theorem grown_bytesW (w : World) (e : TypeId) (s : ByteArray) : w.grownBy (Lib.bytesWorld w e s) none :=
  ⟨by simp [Lib.bytesWorld, World.freeze]; rfl, by simp [Lib.bytesWorld, World.freeze], by simp [Lib.bytesWorld, World.freeze]; rfl, by rw [Lib.bytesWorld_size]; omega, fun k hk _ => Lib.bytesWorld_at_old w e s k hk⟩
/-- '[]byte(s)', s a text. -/
theorem wpList_strBy (hgd : o.guard = none) (t u : TypeId) (x : Operand) (ho : o.op = .convert t u x) {e : TypeId} {d : TypeDesc} (ht : P.underlying t = some d) (hu : P.underlying u = some (.slice e)) (he : P.underlying e = some (.int .u8))
    (s : ByteArray) (hx : a.eval x = .string s) (h : ∀ c w', w.grownBy w' none → Bytes w' (.slice (some ⟨w.heap.size, 0, none⟩) s.size c) (strL s) → wpList P ops Q rest (a.put o.dst (.slice (some ⟨w.heap.size, 0, none⟩) s.size c)) w') : wpList P ops Q (o :: rest) a w := by
  have hr := Lib.run_convert_string_bytes (P := P) w t u e s ht hu he
  refine wpList_plain hgd fun K hK => ?_
  unfold Oper.wp execOp
  simp only [ho, Sem.run_bind, Sem.run_pure, Result.andThen_ok, hx, hr]
  refine hK _ _ (h _ _ (grown_bytesW w e s) ⟨strL_lt s, some ⟨w.heap.size, 0, none⟩, w.heap.size, 0, _, by rw [strL_len], by rw [strL_len]; exact grownCap_ge _ _ _ _, fun _ => ⟨rfl, by rw [Lib.bytesWorld_size]; omega⟩, fun j hj => ?_⟩)
  rw [Nat.zero_add, Lib.bytesWorld_cell w e s j (by rw [← strL_len]; exact hj)]
  congr 3
  simp [strL]
  cases s.data[j]? <;> rfl
end
end Go.Proofs.YtgdnndapmcjoeaaDoor
