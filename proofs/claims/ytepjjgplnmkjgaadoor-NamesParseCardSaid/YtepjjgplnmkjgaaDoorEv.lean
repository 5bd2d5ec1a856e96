/- The error of a number; the errors' variables by name, in every grown world. -/
import Derived.Test.YtepjjgplnmkjgaaDoorNm1
namespace Go.Proofs.YtepjjgplnmkjgaaDoor
open Go.RowKit

/-- The error of a number. -/
abbrev errV (A : Nat → Addr) (k : Nat) : Value := .iface 87 (.pointer (some (A (k - 1))))
theorem errs_at {w : World} {A : Nat → Addr} (h : AllErrs w A) (k : Nat) (hk : k - 1 < 28) : w.cell? ⟨errVars.getD (k - 1) 0, 0, none⟩ = some (errV A k) := h.at_ _ hk
theorem err_range {w : World} {A : Nat → Addr} (h : AllErrs w A) : w.cell? ⟨1, 0, none⟩ = some (errV A 1) := errs_at h 1 (by decide)
theorem err_short {w : World} {A : Nat → Addr} (h : AllErrs w A) : w.cell? ⟨2, 0, none⟩ = some (errV A 2) := errs_at h 2 (by decide)
theorem err_form {w : World} {A : Nat → Addr} (h : AllErrs w A) : w.cell? ⟨4, 0, none⟩ = some (errV A 4) := errs_at h 4 (by decide)
/-- The two errors that package oids and package whole hand back of texts. -/
structure RFErrs (w : World) (A : Nat → Addr) : Prop where
  range : w.cell? ⟨1, 0, none⟩ = some (errV A 1)
  form : w.cell? ⟨4, 0, none⟩ = some (errV A 4)
theorem RFErrs.grown {w w' : World} {A : Nat → Addr} (h : RFErrs w A) (hg : w.grownBy w' none) : RFErrs w' A :=
  ⟨(World.cell?_of_block (hg.block _ (World.block_lt_of_cell? w _ h.range) (by simp))).trans h.range, (World.cell?_of_block (hg.block _ (World.block_lt_of_cell? w _ h.form) (by simp))).trans h.form⟩
theorem AllErrs.rf {w : World} {A : Nat → Addr} (h : AllErrs w A) : RFErrs w A := ⟨err_range h, err_form h⟩
/-- What bullanum.Num answers of what a call hands on. -/
def errOf (A : Nat → Addr) (k : Nat) : Value := if k = 0 then .nilIface else errV A k
theorem num_of (A : Nat → Addr) (k : Nat) (hk : k ≤ 28) (w : World) (hA : AllErrs w A) :
    Calls Tryd.prog 8 #[errOf A k] w fun e w' => e = .returned (.int .i64 k) ∧ w.grownBy w' none := by
  unfold errOf
  split
  · rename_i h
    subst h
    exact (num_nil w).mono (by rintro e w' ⟨rfl, rfl⟩; exact ⟨rfl, grown_refl _ _⟩)
  · have h := num_err A (k - 1) (by omega) w hA
    rw [show k - 1 + 1 = k by omega] at h
    exact h
end Go.Proofs.YtepjjgplnmkjgaaDoor
