/- 'copy' of bytes over a block's whole row. It names no program. -/
import Derived.Test.YtbneggdfbkebcaaDoorByt
import Derived.Test.YtbneggdfbkebcaaDoorAp
import Derived.Laws.IdiomCopy
namespace Go.Proofs.YtbneggdfbkebcaaDoor
open Go.RowKit
theorem bytesV_mem' (ws : List Nat) : ∀ v ∈ (bytesV ws).toList, v.oneCell' = true := by
  intro v hv
  simp only [bytesV, List.mem_map] at hv
  obtain ⟨x, _, rfl⟩ := hv
  rfl
section
variable {P : Program}
/-- 'copy' of bytes over a block's whole row. -/
theorem copy_bytes' {w : World} {dT sT ty e : TypeId} (hu : P.underlying dT = some (.slice e)) (hs : (P.info? e).map (·.size) = some 1)
    {b N : Nat} {Z l : List Nat} {t : TypeId} {v : Value} (hb : w.heap[b]? = some (.cells (bytesV Z) t (0, 0))) (hZ : Z.length = N) (hB : Bytes w v l) (hl : l.length ≤ N) :
    ∃ w', (Builtin.copy_ #[dT, sT] ty #[.slice (some ⟨b, 0, none⟩) N N, v]).run P w = .ok (goInt l.length) w' ∧ w'.heap[b]? = some (.cells (bytesV (l ++ Z.drop l.length)) t (0, 0)) ∧ w.grownBy w' (some b) := by
  obtain ⟨h1, a, sb, so, c, rfl, hc, ha, hcell⟩ := hB
  rcases Nat.eq_zero_or_pos l.length with h0 | h0
  · obtain rfl := List.eq_nil_of_length_eq_zero h0
    exact ⟨w, run_copy_none (P := P) w dT sT ty e (some ⟨b, 0, none⟩) a N N 0 c hu hs (Nat.zero_min _), by simpa using hb, grown_refl _ _⟩
  · obtain ⟨rfl, hsb⟩ := ha h0
    have hr := run_copy_cells (P := P) w dT sT ty e b 0 N N ⟨sb, so, none⟩ l.length c (bytesV l).toList hu hs (by rw [Array.length_toList, bytesV_size]; exact (Nat.min_eq_left hl).symm)
      (fun j u hj => by
        have hjl : j < l.length := by have := (List.getElem?_eq_some_iff.1 hj).1; simpa [bytesV_size] using this
        rw [addr_addO, hcell j hjl, ← bytesV_at l j hjl, ← hj]
        simp)
      (fun j hj => by
        have hjl : j < l.length := by simpa [bytesV_size] using hj
        have hz : j < (bytesV Z).size := by rw [bytesV_size]; omega
        simp [World.cell?, hb, hz])
      (fun j _ => free_blk hb _) (bytesV_mem' _)
    have e : (bytesV l).toList.length = l.length := by rw [Array.length_toList, bytesV_size]
    have hr' := hr
    rw [show goInt (((bytesV l).toList.length : Nat) : Int) = goInt (l.length : Int) by rw [e]] at hr'
    refine ⟨_, hr', ?_, grown_setCells b (.inr rfl) _ _ _ (grown_refl _ _)⟩
    have := setCells_heap (b := b) (t := t) (fr := (0, 0)) (bytesV l).toList [] ((bytesV Z).toList.take l.length) ((bytesV Z).toList.drop l.length) w (by simpa using hb) (by simp [bytesV]; omega)
    simpa [bytesV] using this
theorem wpList_copyB' {w : World} {ops : Array Oper} {rest : List Oper} {o : Oper} {a : Act} {Q : Exit → Act → World → Prop} (hgd : o.guard = none) (s x : Operand) (t u : TypeId)
    (ho : o.op = .call { callee := .builtin .copy, args := #[s, x], argTypes := #[t, u] }) {e : TypeId} (hu : P.underlying t = some (.slice e)) (hs : (P.info? e).map (·.size) = some 1)
    {b N : Nat} {Z l : List Nat} {T : TypeId} {v : Value} (hd : a.eval s = .slice (some ⟨b, 0, none⟩) N N) (hx : a.eval x = v) (hb : w.heap[b]? = some (.cells (bytesV Z) T (0, 0))) (hZ : Z.length = N) (hB : Bytes w v l) (hl : l.length ≤ N)
    (h : ∀ w', w'.heap[b]? = some (.cells (bytesV (l ++ Z.drop l.length)) T (0, 0)) → w.grownBy w' (some b) → wpList P ops Q rest (a.put o.dst (goInt l.length)) w') : wpList P ops Q (o :: rest) a w := by
  obtain ⟨w', hr, k1, k2⟩ := copy_bytes' (P := P) (ty := o.type) (sT := u) hu hs hb hZ hB hl
  refine wpList_plain hgd fun K hK => ?_
  unfold Oper.wp execOp
  simp only [ho, resolve, invoke, builtin, Sem.run_bind, Sem.run_pure, Result.andThen_ok, List.map_toArray, List.map_cons, List.map_nil, hd, hx, hr]
  exact hK _ _ (h w' k1 k2)
end
end Go.Proofs.YtbneggdfbkebcaaDoor
