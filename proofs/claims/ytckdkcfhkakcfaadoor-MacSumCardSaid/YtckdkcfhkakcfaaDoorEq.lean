/- Arrays of bytes held against themselves. -/
import Derived.Test.YtckdkcfhkakcfaaDoorByt
import Derived.Laws.StructEq
import Derived.WalkKit
namespace Go.Proofs.YtckdkcfhkakcfaaDoor
open Go.RowKit
section
variable {P : Program}

theorem run_eqArr_same (w : World) (d t e n : Nat) (cs : Array Value) (hu : P.underlying t = some (.array n e)) (he : P.underlying e = some (.int .u8)) (hagg : ∀ w, (isAgg e).run P w = .ok false w) (hsz : ∀ w, (sizeOf e).run P w = .ok 1 w)
    (hcs : ∀ i, i < n → ∃ x, cs[i]? = some (.int .u8 x)) : (Op.equalIn (d + 2) t (.agg cs) (.agg cs)).run P w = .ok true w := by
  have hp : ∀ i, i < n → ∃ x, ∀ w, (part e cs i).run P w = .ok (.int .u8 x) w := fun i hi => by
    obtain ⟨x, hx⟩ := hcs i hi
    exact ⟨x, fun w => by simp [part, Sem.run_bind, hagg, hx, Result.andThen]⟩
  rw [Op.equalIn]
  simp only [Sem.run_bind, run_underlying hu, Result.andThen_ok, hsz, Std.Legacy.Range.forIn_eq_forIn_range', Std.Legacy.Range.size]
  have key : ∀ (l : List Nat), (∀ i ∈ l, i < n) → ∀ w, (forIn l ((none, ()) : Option Bool × Unit) fun i _ => do
      let a ← part e cs (i * 1)
      let b ← part e cs (i * 1)
      let r ← Op.equalIn (d + 1) e a b
      if (!r) = true then pure (ForInStep.done (some false, ())) else pure (ForInStep.yield (none, ()))).run P w = .ok (none, ()) w := by
    intro l
    induction l with
    | nil => intro _ w; rfl
    | cons i l ih =>
      intro hl w
      obtain ⟨x, hx⟩ := hp i (hl i (by simp))
      simp only [List.forIn_cons, Sem.run_bind, Nat.mul_one, hx, Result.andThen_ok, run_equalIn_int w d e .u8 .u8 x x he, beq_self_eq_true, Bool.not_true, Bool.false_eq_true, if_false, Sem.run_pure]
      simpa using ih (fun j hj => hl j (by simp [hj])) w
  have e1 : (n - 0 + 1 - 1) / 1 = n := by rw [Nat.div_one]; omega
  rw [e1]
  have := key (List.range' 0 n) (fun i hi => by have := List.mem_range'_1.1 hi; omega) w
  rw [this]
  rfl

/-- '==' and '!=' of arrays of bytes, one and the same. -/
theorem eql_bytes_same (w : World) (t e n : Nat) (l : List Nat) (hl : l.length = n) (hu : P.underlying t = some (.array n e)) (he : P.underlying e = some (.int .u8)) (hagg : ∀ w, (isAgg e).run P w = .ok false w) (hsz : ∀ w, (sizeOf e).run P w = .ok 1 w) :
    (binOp .eql t (.agg (bytesV l)) (.agg (bytesV l))).run P w = .ok (.bool true) w ∧ (binOp .neq t (.agg (bytesV l)) (.agg (bytesV l))).run P w = .ok (.bool false) w := by
  have h := run_eqArr_same w 9998 t e n (bytesV l) hu he hagg hsz (fun i hi => ⟨_, bytesV_at l i (by omega)⟩)
  exact ⟨by rw [run_eql_struct, h]; rfl, by rw [run_neq_struct, h]; rfl⟩
end
end Go.Proofs.YtckdkcfhkakcfaaDoor
