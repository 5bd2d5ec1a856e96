/- The document's Frame of the word id with no parts. -/
import Derived.Test.YtckdkcfhkakcfaaDoorHm7
import Derived.Test.YtckdkcfhkakcfaaDoorMs6
import Derived.Lib.ConvBytes
namespace Go.Proofs.YtckdkcfhkakcfaaDoor
open Go.RowKit

section
variable {P : Program} {ops : Array Oper} {rest : List Oper} {o : Oper} {a : Act} {w : World} {Q : Exit → Act → World → Prop}
theorem grown_bytesWorld (w : World) (e : TypeId) (s : ByteArray) : w.grownBy (Lib.bytesWorld w e s) none :=
  ⟨by simp [Lib.bytesWorld, World.freeze]; rfl, by simp [Lib.bytesWorld, World.freeze], by simp [Lib.bytesWorld, World.freeze]; rfl, by rw [Lib.bytesWorld_size]; omega, fun k hk _ => Lib.bytesWorld_at_old w e s k hk⟩
/-- '[]byte(s)', s a text. -/
theorem wpList_strB (hgd : o.guard = none) (t u : TypeId) (x : Operand) (ho : o.op = .convert t u x) {e : TypeId} {d : TypeDesc} (ht : P.underlying t = some d) (hu : P.underlying u = some (.slice e)) (he : P.underlying e = some (.int .u8))
    (s : ByteArray) (hx : a.eval x = .string s) (h : ∀ c w', w.grownBy w' none → Bytes w' (.slice (some ⟨w.heap.size, 0, none⟩) s.size c) (strL s) → wpList P ops Q rest (a.put o.dst (.slice (some ⟨w.heap.size, 0, none⟩) s.size c)) w') : wpList P ops Q (o :: rest) a w := by
  have hr := Lib.run_convert_string_bytes (P := P) w t u e s ht hu he
  refine wpList_plain hgd fun K hK => ?_
  unfold Oper.wp execOp
  simp only [ho, Sem.run_bind, Sem.run_pure, Result.andThen_ok, hx, hr]
  refine hK _ _ (h _ _ (grown_bytesWorld w e s) ⟨strL_lt s, some ⟨w.heap.size, 0, none⟩, w.heap.size, 0, _, by rw [strL_len], by rw [strL_len]; exact grownCap_ge _ _ _ _, fun _ => ⟨rfl, by rw [Lib.bytesWorld_size]; omega⟩, fun j hj => ?_⟩)
  rw [Nat.zero_add, Lib.bytesWorld_cell w e s j (by rw [← strL_len]; exact hj)]
  congr 3
  simp [strL]
  cases s.data[j]? <;> rfl
end

theorem id_lt : ∀ x ∈ [2, 105, 100, 0], x < 256 := by decide
set_option maxRecDepth 100000 in
set_option maxHeartbeats 400000 in
theorem refFrame_id (w : World) :
    Calls Tryd.prog 34 #[.string ⟨#[105, 100]⟩, .slice none 0 0] w fun e w' => ∃ v, e = .returned (.tuple #[v, .int .i64 0]) ∧ FrW w w' v [2, 105, 100, 0] := by
  have hsl : strL ⟨#[105, 100]⟩ = [105, 100] := rfl
  have F1 : Hid (FrW w (w.alloc (.cells #[.int .u8 2] 5)) (.slice (some ⟨w.heap.size, 0, none⟩) 1 1) [2]) := Lib.hid ⟨World.grownBy_alloc _ _ _, ownsRow_lit (alloc_at w _) (Nat.le_refl _) (by simp)⟩
  have HSL := Lib.hid hsl
  clear hsl
  go_enter Tryd.func34, Tryd.ntmps34
  go_wp2
  refine wp_loop_rounds 3 ?_
  rw [rounds_succ]
  go_wp2
  rw [rounds_succ]
  go_wp2
  rw [rounds_succ]
  go_wp2_with (first
    | (refine wpList_strB (by rfl) 9 25 (.tmp 55) (by rfl) Tryd.underlying9 Tryd.underlying25 Tryd.underlying5 ⟨#[105, 100]⟩ (by rfl) ?_; intro c2 w2 hg2 hb2; rw [HSL.out] at hb2; have B2 := Lib.hid hb2; have F2 : Hid (FrW w w2 (.slice (some ⟨w.heap.size, 0, none⟩) 1 1) [2]) := Lib.hid ⟨grown_trans F1.out.grown hg2, F1.out.own.kept hg2 (Classical.em _)⟩; clear hg2 hb2)
    | (at_builtin; refine wpList_appB (by rfl) (.tmp 54) (.tmp 56) 25 (by rfl) w.heap.size 5 (.int .u8 0) 1 Tryd.underlying25 (by kernel_rfl) rfl (by decide) _ _ _ (by rfl) F2.out.own _ [105, 100] (by rfl) B2.out (Whole0.some _ _ _) (by decide) F2.out.le ?_; intro v3 w3 ho3 hg3; have F3 := Lib.hid (F2.out.step (l' := [2, 105, 100]) ho3 hg3 rfl); clear ho3 hg3)
    | (at_builtin; refine wpList_appB (by rfl) (.tmp 58) (.tmp 62) 25 (by rfl) w.heap.size 5 (.int .u8 0) 1 Tryd.underlying25 (by kernel_rfl) rfl (by decide) v3 _ _ (by rfl) (F3.out.own.alloc _) _ [0] (by rfl) (Bytes.lit (alloc_at w3 _) (by decide)) (Whole0.some _ _ _) (by decide) (by have := F3.out.le; rw [alloc_size]; omega) ?_; intro v4 w4 ho4 hg4; have F4 := Lib.hid ((F3.out.alloc _).step (l' := [2, 105, 100, 0]) ho4 hg4 rfl); clear ho4 hg4))
  refine wp_loop_rounds 1 ?_
  rw [rounds_succ]
  go_wp2
  go_ret2
  exact ⟨_, rfl, F4.out⟩
end Go.Proofs.YtckdkcfhkakcfaaDoor
