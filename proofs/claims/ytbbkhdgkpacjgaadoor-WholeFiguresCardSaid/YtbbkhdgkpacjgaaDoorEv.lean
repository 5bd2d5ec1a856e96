/- The error of a number; the errors' variables by name, in every grown world. -/
import Derived.Test.YtbbkhdgkpacjgaaDoorNm1
namespace Go.Proofs.YtbbkhdgkpacjgaaDoor
open Go.RowKit

/-- The error of a number. -/
abbrev errV (A : Nat → Addr) (k : Nat) : Value := .iface 95 (.pointer (some (A (k - 1))))
theorem errs_at {w : World} {A : Nat → Addr} (h : AllErrs w A) (k : Nat) (hk : k - 1 < 28) : w.cell? ⟨errVars.getD (k - 1) 0, 0, none⟩ = some (errV A k) := h.at_ _ hk
theorem err_range {w : World} {A : Nat → Addr} (h : AllErrs w A) : w.cell? ⟨2, 0, none⟩ = some (errV A 1) := errs_at h 1 (by decide)
theorem err_short {w : World} {A : Nat → Addr} (h : AllErrs w A) : w.cell? ⟨0, 0, none⟩ = some (errV A 2) := errs_at h 2 (by decide)
theorem err_form {w : World} {A : Nat → Addr} (h : AllErrs w A) : w.cell? ⟨1, 0, none⟩ = some (errV A 4) := errs_at h 4 (by decide)
/-- What bullanum.Num answers of what a call hands on. -/
def errOf (A : Nat → Addr) (k : Nat) : Value := if k = 0 then .nilIface else errV A k
theorem num_of (A : Nat → Addr) (k : Nat) (hk : k ≤ 28) (w : World) (hA : AllErrs w A) :
    Calls Tryd.prog 12 #[errOf A k] w fun e w' => e = .returned (.int .i64 k) ∧ w.grownBy w' none := by
  unfold errOf
  split
  · rename_i h
    subst h
    exact (num_nil w).mono (by rintro e w' ⟨rfl, rfl⟩; exact ⟨rfl, grown_refl _ _⟩)
  · have h := num_err A (k - 1) (by omega) w hA
    rw [show k - 1 + 1 = k by omega] at h
    exact h
end Go.Proofs.YtbbkhdgkpacjgaaDoor
