import Derived.Test.YtgdnndapmcjoeaaDoorKd02
import Derived.Test.YtgdnndapmcjoeaaDoorKd08
import Derived.BigQuiet
import Derived.Handy
namespace Go.Proofs.YtgdnndapmcjoeaaDoor
open Go.RowKit
set_option linter.unusedVariables false
def errRow (A : Nat → Addr) : Array Value := #[.nilIface, errV A 1, errV A 2, errV A 3, errV A 4, errV A 5, errV A 6, errV A 7, errV A 8, errV A 9, errV A 10, errV A 11, errV A 12, errV A 13, errV A 14, errV A 15, errV A 16, errV A 17, errV A 18, errV A 19, errV A 20, errV A 21, errV A 22, errV A 23, errV A 24, errV A 25, errV A 26, errV A 27, errV A 28]
theorem errRow_at (A : Nat → Addr) (n : Nat) (h1 : 1 ≤ n) (h2 : n ≤ 28) : (errRow A)[n]? = some (errV A n) := by
  match n, h1, h2 with
    | 1, _, _ => rfl
    | 2, _, _ => rfl
    | 3, _, _ => rfl
    | 4, _, _ => rfl
    | 5, _, _ => rfl
    | 6, _, _ => rfl
    | 7, _, _ => rfl
    | 8, _, _ => rfl
    | 9, _, _ => rfl
    | 10, _, _ => rfl
    | 11, _, _ => rfl
    | 12, _, _ => rfl
    | 13, _, _ => rfl
    | 14, _, _ => rfl
    | 15, _, _ => rfl
    | 16, _, _ => rfl
    | 17, _, _ => rfl
    | 18, _, _ => rfl
    | 19, _, _ => rfl
    | 20, _, _ => rfl
    | 21, _, _ => rfl
    | 22, _, _ => rfl
    | 23, _, _ => rfl
    | 24, _, _ => rfl
    | 25, _, _ => rfl
    | 26, _, _ => rfl
    | 27, _, _ => rfl
    | 28, _, _ => rfl
    | k + 29, _, h => omega
set_option maxRecDepth 100000 in
set_option maxHeartbeats 2000000 in
theorem numErr_any (A : Nat → Addr) (n : Nat) (h1 : 1 ≤ n) (h2 : n ≤ 28) (w : World) (hE : AllErrs w A) : Calls Tryd.prog 39 #[.int .i64 (n : Int)] w fun e w' => e = .returned (errV A n) ∧ w.grownBy w' none := by
  have e1 := errs_at hE 1 (by decide)
  have e2 := errs_at hE 2 (by decide)
  have e3 := errs_at hE 3 (by decide)
  have e4 := errs_at hE 4 (by decide)
  have e5 := errs_at hE 5 (by decide)
  have e6 := errs_at hE 6 (by decide)
  have e7 := errs_at hE 7 (by decide)
  have e8 := errs_at hE 8 (by decide)
  have e9 := errs_at hE 9 (by decide)
  have e10 := errs_at hE 10 (by decide)
  have e11 := errs_at hE 11 (by decide)
  have e12 := errs_at hE 12 (by decide)
  have e13 := errs_at hE 13 (by decide)
  have e14 := errs_at hE 14 (by decide)
  have e15 := errs_at hE 15 (by decide)
  have e16 := errs_at hE 16 (by decide)
  have e17 := errs_at hE 17 (by decide)
  have e18 := errs_at hE 18 (by decide)
  have e19 := errs_at hE 19 (by decide)
  have e20 := errs_at hE 20 (by decide)
  have e21 := errs_at hE 21 (by decide)
  have e22 := errs_at hE 22 (by decide)
  have e23 := errs_at hE 23 (by decide)
  have e24 := errs_at hE 24 (by decide)
  have e25 := errs_at hE 25 (by decide)
  have e26 := errs_at hE 26 (by decide)
  have e27 := errs_at hE 27 (by decide)
  have e28 := errs_at hE 28 (by decide)
  simp only [errVars, List.getD_cons_zero, List.getD_cons_succ, Nat.add_one_sub_one, Nat.reduceSub] at e1 e2 e3 e4 e5 e6 e7 e8 e9 e10 e11 e12 e13 e14 e15 e16 e17 e18 e19 e20 e21 e22 e23 e24 e25 e26 e27 e28
  have n0 : ¬ (n : Int) < 0 := by omega
  have n1 : ¬ (29 : Int) ≤ (n : Int) := by omega
  have n2 : (n : Int) < 29 := by omega
  have n3 : (0 : Int) ≤ (n : Int) := by omega
  have HR := Lib.hid (errRow_at A n h1 h2)
  have HCell : Hid ((w.alloc (.cells (errRow A) 26)).cell? ⟨w.heap.size, n, none⟩ = some (errV A n)) := Lib.hid (cell_blk (alloc_at w _) n HR.out)
  clear hE
  have q := HCell.out
  unfold errRow at q
  go_enter Tryd.func39, Tryd.ntmps39
  go_wp2
  go_ret
  exact ⟨rfl, grown_alloc (grown_refl _ _) _⟩
end Go.Proofs.YtgdnndapmcjoeaaDoor
