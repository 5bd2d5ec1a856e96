import Derived.Test.YtagdcjpjbjboeaaGreatDoorZb03
import Derived.Laws.IdiomCopy
import Derived.Test.YtagdcjpjbjboeaaGreatDoorChecked
import Derived.WalkKit
import Derived.LaidEql
import Derived.Stop.Asserts
import Derived.RowKitTokens
import Derived.Lib.Hide
import Derived.BigQuiet
import Derived.Handy
namespace Go.Proofs.YtagdcjpjbjboeaaGreatDoor
open Go.RowKit
theorem bytesV_mem' (ws : List Nat) : ∀ v ∈ (bytesV ws).toList, v.oneCell' = true := by
  intro v hv
  simp only [bytesV, List.mem_map] at hv
  obtain ⟨x, _, rfl⟩ := hv
  rfl
section
variable {P : Program}
/-- 'copy' of bytes over a block's whole row. -/
theorem copy_bytes' {w : World} {dT sT ty e : TypeId} (hu : P.underlying dT = some (.slice e)) (hs : (P.info? e).map (·.size) = some 1)
    {b N : Nat} {Z l : List Nat} {t : TypeId} {v : Value} (hb : w.heap[b]? = some (.cells (bytesV Z) t (0, 0))) (hZ : Z.length = N) (hB : Bytes w v l) (hl : l.length ≤ N) :
    ∃ w', (Builtin.copy_ #[dT, sT] ty #[.slice (some ⟨b, 0, none⟩) N N, v]).run P w = .ok (goInt l.length) w' ∧ w'.heap[b]? = some (.cells (bytesV (l ++ Z.drop l.length)) t (0, 0)) ∧ w.grownBy w' (some b) := by
  obtain ⟨h1, a, sb, so, c, rfl, hc, ha, hcell⟩ := hB
  rcases Nat.eq_zero_or_pos l.length with h0 | h0
  · obtain rfl := List.eq_nil_of_length_eq_zero h0
    exact ⟨w, run_copy_none (P := P) w dT sT ty e (some ⟨b, 0, none⟩) a N N 0 c hu hs (Nat.zero_min _), by simpa using hb, grown_refl _ _⟩
  · obtain ⟨rfl, hsb⟩ := ha h0
    have hr := run_copy_cells (P := P) w dT sT ty e b 0 N N ⟨sb, so, none⟩ l.length c (bytesV l).toList hu hs (by rw [Array.length_toList, bytesV_size]; exact (Nat.min_eq_left hl).symm)
      (fun j u hj => by
        have hjl : j < l.length := by have := (List.getElem?_eq_some_iff.1 hj).1; simpa [bytesV_size] using this
        rw [addr_addO, hcell j hjl, ← bytesV_at l j hjl, ← hj]
        simp)
      (fun j hj => by
        have hjl : j < l.length := by simpa [bytesV_size] using hj
        have hz : j < (bytesV Z).size := by rw [bytesV_size]; omega
        simp [World.cell?, hb, hz])
      (fun j _ => free_blk hb _) (bytesV_mem' _)
    have e : (bytesV l).toList.length = l.length := by rw [Array.length_toList, bytesV_size]
    have hr' := hr
    rw [show goInt (((bytesV l).toList.length : Nat) : Int) = goInt (l.length : Int) by rw [e]] at hr'
    refine ⟨_, hr', ?_, grown_setCells b (.inr rfl) _ _ _ (grown_refl _ _)⟩
    have := setCells_heap (b := b) (t := t) (fr := (0, 0)) (bytesV l).toList [] ((bytesV Z).toList.take l.length) ((bytesV Z).toList.drop l.length) w (by simpa using hb) (by simp [bytesV]; omega)
    simpa [bytesV] using this
theorem wpList_copyB' {w : World} {ops : Array Oper} {rest : List Oper} {o : Oper} {a : Act} {Q : Exit → Act → World → Prop} (hgd : o.guard = none) (s x : Operand) (t u : TypeId)
    (ho : o.op = .call { callee := .builtin .copy, args := #[s, x], argTypes := #[t, u] }) {e : TypeId} (hu : P.underlying t = some (.slice e)) (hs : (P.info? e).map (·.size) = some 1)
    {b N : Nat} {Z l : List Nat} {T : TypeId} {v : Value} (hd : a.eval s = .slice (some ⟨b, 0, none⟩) N N) (hx : a.eval x = v) (hb : w.heap[b]? = some (.cells (bytesV Z) T (0, 0))) (hZ : Z.length = N) (hB : Bytes w v l) (hl : l.length ≤ N)
    (h : ∀ w', w'.heap[b]? = some (.cells (bytesV (l ++ Z.drop l.length)) T (0, 0)) → w.grownBy w' (some b) → wpList P ops Q rest (a.put o.dst (goInt l.length)) w') : wpList P ops Q (o :: rest) a w := by
  obtain ⟨w', hr, k1, k2⟩ := copy_bytes' (P := P) (ty := o.type) (sT := u) hu hs hb hZ hB hl
  refine wpList_plain hgd fun K hK => ?_
  unfold Oper.wp execOp
  simp only [ho, resolve, invoke, builtin, Sem.run_bind, Sem.run_pure, Result.andThen_ok, List.map_toArray, List.map_cons, List.map_nil, hd, hx, hr]
  exact hK _ _ (h w' k1 k2)
end
end Go.Proofs.YtagdcjpjbjboeaaGreatDoor
namespace Go.Proofs.YtagdcjpjbjboeaaGreatDoor
open Go.RowKit Go.Extern.Stop Go.Stop Go.Extern
end Go.Proofs.YtagdcjpjbjboeaaGreatDoor
namespace Go.Proofs.YtagdcjpjbjboeaaGreatDoor
open Go.RowKit
/-- The errors' variables, in the order of the document's numbers. -/
def errVars : List Nat := [0, 1, 2, 3, 4, 5, 6, 7, 8, 9, 10, 11, 12, 13, 14, 15, 16, 17, 18, 19, 20, 21, 22, 23, 24, 25, 26, 27]
/-- The errors that the row lists. -/
def errIn (i : Nat) : Bool := [0, 1, 2, 3, 4, 5, 6, 7, 23].contains i
/-- They are laid. -/
structure AllErrs (w : World) (A : Nat → Addr) : Prop where
  at_ : ∀ i, errIn i = true → w.cell? ⟨errVars.getD i 0, 0, none⟩ = some (.iface 327 (.pointer (some (A i))))
  lt : ∀ i, errIn i = true → errVars.getD i 0 < w.heap.size
theorem AllErrs.grown {w w' : World} {A : Nat → Addr} (h : AllErrs w A) (hg : w.grownBy w' none) : AllErrs w' A :=
  ⟨fun i hi => by rw [World.cell?_of_block (hg.block _ (h.lt i hi) (by simp))]; exact h.at_ i hi, fun i hi => Nat.lt_of_lt_of_le (h.lt i hi) hg.size⟩
end Go.Proofs.YtagdcjpjbjboeaaGreatDoor
namespace Go.Proofs.YtagdcjpjbjboeaaGreatDoor
open Go.RowKit
/-- The error of a number. -/
abbrev errV (A : Nat → Addr) (k : Nat) : Value := .iface 327 (.pointer (some (A (k - 1))))
theorem errs_at {w : World} {A : Nat → Addr} (h : AllErrs w A) (k : Nat) (hk : errIn (k - 1) = true) : w.cell? ⟨errVars.getD (k - 1) 0, 0, none⟩ = some (errV A k) := h.at_ _ hk
theorem err_range {w : World} {A : Nat → Addr} (h : AllErrs w A) : w.cell? ⟨0, 0, none⟩ = some (errV A 1) := errs_at h 1 (by decide)
theorem err_short {w : World} {A : Nat → Addr} (h : AllErrs w A) : w.cell? ⟨1, 0, none⟩ = some (errV A 2) := errs_at h 2 (by decide)
theorem err_form {w : World} {A : Nat → Addr} (h : AllErrs w A) : w.cell? ⟨3, 0, none⟩ = some (errV A 4) := errs_at h 4 (by decide)
/-- The two errors that package oids and package whole hand back of texts. -/
structure RFErrs (w : World) (A : Nat → Addr) : Prop where
  range : w.cell? ⟨0, 0, none⟩ = some (errV A 1)
  form : w.cell? ⟨3, 0, none⟩ = some (errV A 4)
theorem RFErrs.grown {w w' : World} {A : Nat → Addr} (h : RFErrs w A) (hg : w.grownBy w' none) : RFErrs w' A :=
  ⟨(World.cell?_of_block (hg.block _ (World.block_lt_of_cell? w _ h.range) (by simp))).trans h.range, (World.cell?_of_block (hg.block _ (World.block_lt_of_cell? w _ h.form) (by simp))).trans h.form⟩
theorem AllErrs.rf {w : World} {A : Nat → Addr} (h : AllErrs w A) : RFErrs w A := ⟨err_range h, err_form h⟩
/-- What bullanum.Num answers of what a call hands on. -/
def errOf (A : Nat → Addr) (k : Nat) : Value := if k = 0 then .nilIface else errV A k
end Go.Proofs.YtagdcjpjbjboeaaGreatDoor
namespace Go.Proofs.YtagdcjpjbjboeaaGreatDoor
open Go.RowKit
set_option linter.unusedVariables false
set_option maxRecDepth 100000 in
theorem rdFail0e {w : World} {b : Nat} {lv ov : Value} (hb : w.heap[b]? = some (.cells #[lv, ov, .nilIface] 102 (0, 0))) (A : Nat → Addr) (k : Nat) : Calls Tryz.prog 90 #[.pointer (some ⟨b, 0, none⟩), errV A k] w fun e w' => e = .returned (.tuple #[]) ∧ w' = w.setCell ⟨b, 2, none⟩ (errV A k) := by
  have c0 := cell_blk hb 0 rfl
  have c1 := cell_blk hb 1 rfl
  have c2 := cell_blk hb 2 rfl
  have f2 := free_blk hb 2
  have hlt := blk_lt hb
  go_enter Tryz.func90, Tryz.ntmps90
  go_wp2
  go_returns
  exact ⟨rfl, rfl⟩
set_option maxRecDepth 100000 in
theorem rdFail1 {w : World} {b : Nat} {lv ov : Value} {A : Nat → Addr} {k : Nat} (hb : w.heap[b]? = some (.cells #[lv, ov, errV A k] 102 (0, 0))) (x : Value) : Calls Tryz.prog 90 #[.pointer (some ⟨b, 0, none⟩), x] w fun e w' => e = .returned (.tuple #[]) ∧ w' = w := by
  have c0 := cell_blk hb 0 rfl
  have c1 := cell_blk hb 1 rfl
  have c2 := cell_blk hb 2 rfl
  have f2 := free_blk hb 2
  have hlt := blk_lt hb
  go_enter Tryz.func90, Tryz.ntmps90
  go_wp2
  go_returns
  exact ⟨rfl, rfl⟩
set_option maxRecDepth 100000 in
theorem rdEnd1 {w : World} {b : Nat} {lv ov : Value} {A : Nat → Addr} {k : Nat} (hb : w.heap[b]? = some (.cells #[lv, ov, errV A k] 102 (0, 0))) : Calls Tryz.prog 19 #[.pointer (some ⟨b, 0, none⟩)] w fun e w' => e = .returned (errV A k) ∧ w' = w := by
  have c0 := cell_blk hb 0 rfl
  have c1 := cell_blk hb 1 rfl
  have c2 := cell_blk hb 2 rfl
  have f2 := free_blk hb 2
  have hlt := blk_lt hb
  go_enter Tryz.func19, Tryz.ntmps19
  go_wp2
  go_ret
  exact ⟨rfl, rfl⟩
end Go.Proofs.YtagdcjpjbjboeaaGreatDoor
