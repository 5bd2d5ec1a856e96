import Derived.Test.YtgahhbompnbcdaaGreatDoorZf03
import Derived.Test.YtgahhbompnbcdaaGreatDoorChecked
import Derived.WalkKit
import Derived.LaidEql
import Derived.Stop.Asserts
import Derived.RowKitTokens
import Derived.Lib.Hide
import Derived.BigQuiet
import Derived.Handy
set_option linter.unusedVariables false
set_option linter.unusedSimpArgs false
namespace Go.Proofs.YtgahhbompnbcdaaGreatDoor
open Go.RowKit Go.Extern.Stop Go.Stop Go.Extern
noncomputable def rtypeOf : Value := .agg #[.pointer (some ⟨Tryz.prog.globals.size, 288, none⟩)]
theorem isTypeOf (v : Value) (w : World) : (Extern.ReflectliteType.typeOf #[.iface 288 v]).run Tryz.prog w = .ok (.iface 185 rtypeOf) w := by kernel_rfl
noncomputable def cmpEntry : Array Value → Sem Value := Extern.ReflectliteType.method fun t => do Extern.Rtype.noPackHeld "Comparable" t; pure (.bool (← typeInfo t).comparable)
theorem isComparable (w : World) : (cmpEntry #[rtypeOf]).run Tryz.prog w = .ok (.bool true) w := by kernel_rfl
theorem isMethod (n : Nat) (v : Value) (w : World) : (Go.method (n + 1) 185 v "Comparable").run Tryz.prog w = .ok (281, v) w := by kernel_rfl
theorem isComp : (Tryz.prog.info? 288).map (·.comparable) = some true := by kernel_rfl
theorem isSize : (Tryz.prog.info? 290).map (·.size) = some 1 := by kernel_rfl
theorem noIsE (v : Value) (xT : TypeId) (w : World) : (Instr.typeAssert (.iface 288 v) xT 187 true).run Tryz.prog w = .ok (.tuple #[.nilIface, .bool false]) w := run_typeAssert_lacksB Tryz.underlying187 (by kernel_rfl) (by kernel_rfl) v xT w
theorem noUnwrapE (v : Value) (xT : TypeId) (w : World) : (Instr.typeAssert (.iface 288 v) xT 190 true).run Tryz.prog w = .ok (.tuple #[.nilIface, .bool false]) w := run_typeAssert_lacksB Tryz.underlying190 (by kernel_rfl) (by kernel_rfl) v xT w
theorem noUnwrapsE (v : Value) (xT : TypeId) (w : World) : (Instr.typeAssert (.iface 288 v) xT 191 true).run Tryz.prog w = .ok (.tuple #[.nilIface, .bool false]) w := run_typeAssert_lacksB Tryz.underlying191 (by kernel_rfl) (by kernel_rfl) v xT w
set_option maxRecDepth 100000 in
/-- errors.Is(x, x), x a pointer to an errors.errorString. -/
theorem is_same (a : Addr) (w : World) :
    Calls Tryz.prog 60 #[.iface 288 (.pointer (some a)), .iface 288 (.pointer (some a))] w fun e w' => e = .returned (.bool true) ∧ w' = w := by
  obtain ⟨i, hi, hcmp⟩ := Option.map_eq_some_iff.1 isComp
  obtain ⟨j, hj, hjs⟩ := Option.map_eq_some_iff.1 isSize
  have h8 := @run_callFunc_extern Tryz.prog 109 _ Extern.ReflectliteType.typeOf Tryz.func109 (by kernel_rfl) (by kernel_rfl) (by kernel_rfl) (by kernel_rfl)
  have h32 := @run_callFunc_extern Tryz.prog 281 _ cmpEntry Tryz.func281 (by kernel_rfl) (by kernel_rfl) (by kernel_rfl) (by kernel_rfl)
  have tT := isTypeOf
  have cT := isComparable
  have mR := isMethod
  have heq := run_eql_iface_ptr_same (P := Tryz.prog) w a Tryz.underlying29 Tryz.underlying288 hi hcmp hj
  go_enter Tryz.func60, Tryz.ntmps60
  go_wp2
  refine wp_loop_rounds 1 ?_
  rw [rounds_succ]
  go_wp2
  go_ret
  exact ⟨rfl, rfl⟩
set_option maxRecDepth 100000 in
/-- errors.Is(x, y), two different pointers to errors.errorString: neither has Is nor Unwrap: false. -/
theorem is_other (a b : Addr) (ca cb : Array Value) (ta tb : TypeId) (w : World) (hne : a ≠ b) (ha : w.heap[a.block]? = some (.cells ca ta (0, 0))) (hb : w.heap[b.block]? = some (.cells cb tb (0, 0))) :
    Calls Tryz.prog 60 #[.iface 288 (.pointer (some a)), .iface 288 (.pointer (some b))] w fun e w' => e = .returned (.bool false) ∧ w' = w := by
  obtain ⟨i, hi, hcmp⟩ := Option.map_eq_some_iff.1 isComp
  obtain ⟨j, hj, hjs⟩ := Option.map_eq_some_iff.1 isSize
  have h8 := @run_callFunc_extern Tryz.prog 109 _ Extern.ReflectliteType.typeOf Tryz.func109 (by kernel_rfl) (by kernel_rfl) (by kernel_rfl) (by kernel_rfl)
  have h32 := @run_callFunc_extern Tryz.prog 281 _ cmpEntry Tryz.func281 (by kernel_rfl) (by kernel_rfl) (by kernel_rfl) (by kernel_rfl)
  have tT := isTypeOf
  have cT := isComparable
  have mR := isMethod
  have nE := noIsE
  have uE := noUnwrapE
  have vE := noUnwrapsE
  have heq := run_eql_iface_ptr_other (P := Tryz.prog) w Tryz.underlying29 Tryz.underlying288 hi hcmp hj (by rw [hjs]; decide) hne ha hb
  go_enter Tryz.func60, Tryz.ntmps60
  go_wp2
  refine wp_loop_rounds 1 ?_
  rw [rounds_succ]
  go_wp2
  go_ret
  exact ⟨rfl, rfl⟩
end Go.Proofs.YtgahhbompnbcdaaGreatDoor
namespace Go.Proofs.YtgahhbompnbcdaaGreatDoor
open Go.RowKit
/-- The errors' variables, in the order of the document's numbers. -/
def errVars : List Nat := [3, 4, 2, 5, 6, 7, 8, 9, 10, 11, 12, 13, 14, 15, 16, 17, 18, 19, 20, 21, 22, 23, 24, 1, 25, 26, 27, 0]
/-- All errors are laid, each with an address of its own. -/
structure AllErrs (w : World) (A : Nat → Addr) : Prop where
  at_ : ∀ i, i < 28 → w.cell? ⟨errVars.getD i 0, 0, none⟩ = some (.iface 288 (.pointer (some (A i))))
  lt : ∀ i, i < 28 → errVars.getD i 0 < w.heap.size
  there : ∀ i, i < 28 → ∃ cs t, w.heap[(A i).block]? = some (.cells cs t (0, 0))
  apart : ∀ i j, i < 28 → j < 28 → i ≠ j → A i ≠ A j
theorem AllErrs.grown {w w' : World} {A : Nat → Addr} (h : AllErrs w A) (hg : w.grownBy w' none) : AllErrs w' A :=
  ⟨fun i hi => by rw [World.cell?_of_block (hg.block _ (h.lt i hi) (by simp))]; exact h.at_ i hi, fun i hi => Nat.lt_of_lt_of_le (h.lt i hi) hg.size,
   fun i hi => by obtain ⟨cs, t, hb⟩ := h.there i hi; exact ⟨cs, t, (hg.block _ (blk_lt hb) (by simp)).trans hb⟩, h.apart⟩
theorem num_nil (w : World) : Calls Tryz.prog 14 #[.nilIface] w fun e w' => e = .returned (.int .i64 0) ∧ w' = w := by
  go_enter Tryz.func14, Tryz.ntmps14
  go_wp2
  go_ret
  exact ⟨rfl, rfl⟩
set_option maxRecDepth 100000 in
set_option maxHeartbeats 1000000 in
theorem num_err (A : Nat → Addr) (i : Nat) (hi : i < 28) (w : World) (hA : AllErrs w A) :
    Calls Tryz.prog 14 #[.iface 288 (.pointer (some (A i)))] w fun e w' => e = .returned (.int .i64 ((i + 1 : Nat) : Int)) ∧ w.grownBy w' none := by
  have e0 := hA.at_ 0 (by decide)
  have e1 := hA.at_ 1 (by decide)
  have e2 := hA.at_ 2 (by decide)
  have e3 := hA.at_ 3 (by decide)
  have e4 := hA.at_ 4 (by decide)
  have e5 := hA.at_ 5 (by decide)
  have e6 := hA.at_ 6 (by decide)
  have e7 := hA.at_ 7 (by decide)
  have e8 := hA.at_ 8 (by decide)
  have e9 := hA.at_ 9 (by decide)
  have e10 := hA.at_ 10 (by decide)
  have e11 := hA.at_ 11 (by decide)
  have e12 := hA.at_ 12 (by decide)
  have e13 := hA.at_ 13 (by decide)
  have e14 := hA.at_ 14 (by decide)
  have e15 := hA.at_ 15 (by decide)
  have e16 := hA.at_ 16 (by decide)
  have e17 := hA.at_ 17 (by decide)
  have e18 := hA.at_ 18 (by decide)
  have e19 := hA.at_ 19 (by decide)
  have e20 := hA.at_ 20 (by decide)
  have e21 := hA.at_ 21 (by decide)
  have e22 := hA.at_ 22 (by decide)
  have e23 := hA.at_ 23 (by decide)
  have e24 := hA.at_ 24 (by decide)
  have e25 := hA.at_ 25 (by decide)
  have e26 := hA.at_ 26 (by decide)
  have e27 := hA.at_ 27 (by decide)
  simp only [errVars, List.getD_cons_zero, List.getD_cons_succ] at e0 e1 e2 e3 e4 e5 e6 e7 e8 e9 e10 e11 e12 e13 e14 e15 e16 e17 e18 e19 e20 e21 e22 e23 e24 e25 e26 e27
  have HA := Lib.hid hA
  obtain ⟨w1, hw1⟩ : ∃ w1, w1 = w.alloc (.cells #[.iface 288 (.pointer (some (A 0))), .iface 288 (.pointer (some (A 1))), .iface 288 (.pointer (some (A 2))), .iface 288 (.pointer (some (A 3))), .iface 288 (.pointer (some (A 4))), .iface 288 (.pointer (some (A 5))), .iface 288 (.pointer (some (A 6))), .iface 288 (.pointer (some (A 7))), .iface 288 (.pointer (some (A 8))), .iface 288 (.pointer (some (A 9))), .iface 288 (.pointer (some (A 10))), .iface 288 (.pointer (some (A 11))), .iface 288 (.pointer (some (A 12))), .iface 288 (.pointer (some (A 13))), .iface 288 (.pointer (some (A 14))), .iface 288 (.pointer (some (A 15))), .iface 288 (.pointer (some (A 16))), .iface 288 (.pointer (some (A 17))), .iface 288 (.pointer (some (A 18))), .iface 288 (.pointer (some (A 19))), .iface 288 (.pointer (some (A 20))), .iface 288 (.pointer (some (A 21))), .iface 288 (.pointer (some (A 22))), .iface 288 (.pointer (some (A 23))), .iface 288 (.pointer (some (A 24))), .iface 288 (.pointer (some (A 25))), .iface 288 (.pointer (some (A 26))), .iface 288 (.pointer (some (A 27)))] 29) := ⟨_, rfl⟩
  have G1 : Hid (w.grownBy w1 none) := Lib.hid (by rw [hw1]; exact World.grownBy_alloc _ _ _)
  have B1 : Hid (∀ k, k < 28 → w1.cell? ⟨w.heap.size, k, none⟩ = some (.iface 288 (.pointer (some (A k))))) := Lib.hid (fun k hk => by
    rw [hw1]
    refine cell_blk (alloc_at w _) k ?_
    match k, hk with
    | 0, _ => rfl
    | 1, _ => rfl
    | 2, _ => rfl
    | 3, _ => rfl
    | 4, _ => rfl
    | 5, _ => rfl
    | 6, _ => rfl
    | 7, _ => rfl
    | 8, _ => rfl
    | 9, _ => rfl
    | 10, _ => rfl
    | 11, _ => rfl
    | 12, _ => rfl
    | 13, _ => rfl
    | 14, _ => rfl
    | 15, _ => rfl
    | 16, _ => rfl
    | 17, _ => rfl
    | 18, _ => rfl
    | 19, _ => rfl
    | 20, _ => rfl
    | 21, _ => rfl
    | 22, _ => rfl
    | 23, _ => rfl
    | 24, _ => rfl
    | 25, _ => rfl
    | 26, _ => rfl
    | 27, _ => rfl
    | n + 28, h => omega)
  have HS : Hid (∀ w', w.grownBy w' none → Calls Tryz.prog 60 #[.iface 288 (.pointer (some (A i))), .iface 288 (.pointer (some (A i)))] w' fun e w'' => e = .returned (.bool true) ∧ w'' = w') := Lib.hid (fun w' _ => is_same (A i) w')
  have HO : Hid (∀ k w', k < 28 → k ≠ i → w.grownBy w' none → Calls Tryz.prog 60 #[.iface 288 (.pointer (some (A i))), .iface 288 (.pointer (some (A k)))] w' fun e w'' => e = .returned (.bool false) ∧ w'' = w') := Lib.hid (fun k w' hk hne hg => by
    obtain ⟨c1, t1, h1⟩ := (hA.grown hg).there i hi
    obtain ⟨c2, t2, h2⟩ := (hA.grown hg).there k hk
    exact is_other (A i) (A k) c1 c2 t1 t2 w' (hA.apart i k hi hk (fun e => hne e.symm)) h1 h2)
  have HW1 := Lib.hid hw1
  clear hA hw1
  go_enter Tryz.func14, Tryz.ntmps14
  go_wp2
  rw [← HW1.out]
  clear e0 e1 e2 e3 e4 e5 e6 e7 e8 e9 e10 e11 e12 e13 e14 e15 e16 e17 e18 e19 e20 e21 e22 e23 e24 e25 e26 e27
  go_loopw [39] (fun j wr => ∃ k : Nat, k ≤ i ∧ j = .int .i64 k ∧ wr = w1) (fun j _ => 28 - (intOf j).toNat)
  case atStart => exact ⟨0, Nat.zero_le _, rfl, rfl⟩
  case round =>
    obtain ⟨k, hk, rfl, rfl⟩ := hrel
    have c1 := B1.out k (by omega)
    by_cases hki : k = i
    · subst hki
      go_wp2_with (go_at_call 60; refine (HS.out _ G1.out).mono ?_; rintro e w2 ⟨rfl, rfl⟩)
      go_ret
      exact ⟨by go_num, G1.out⟩
    · go_wp2_with (go_at_call 60; refine (HO.out k _ (by omega) hki G1.out).mono ?_; rintro e w2 ⟨rfl, rfl⟩)
      go_roundw
      case rel => exact ⟨k + 1, by omega, by go_num, by trivial⟩
      case measure => simp [intOf]; omega
end Go.Proofs.YtgahhbompnbcdaaGreatDoor
namespace Go.Proofs.YtgahhbompnbcdaaGreatDoor
open Go.RowKit
/-- The error of a number. -/
abbrev errV (A : Nat → Addr) (k : Nat) : Value := .iface 288 (.pointer (some (A (k - 1))))
theorem errs_at {w : World} {A : Nat → Addr} (h : AllErrs w A) (k : Nat) (hk : k - 1 < 28) : w.cell? ⟨errVars.getD (k - 1) 0, 0, none⟩ = some (errV A k) := h.at_ _ hk
theorem err_range {w : World} {A : Nat → Addr} (h : AllErrs w A) : w.cell? ⟨3, 0, none⟩ = some (errV A 1) := errs_at h 1 (by decide)
theorem err_short {w : World} {A : Nat → Addr} (h : AllErrs w A) : w.cell? ⟨4, 0, none⟩ = some (errV A 2) := errs_at h 2 (by decide)
theorem err_form {w : World} {A : Nat → Addr} (h : AllErrs w A) : w.cell? ⟨5, 0, none⟩ = some (errV A 4) := errs_at h 4 (by decide)
/-- The two errors that package oids and package whole hand back of texts. -/
structure RFErrs (w : World) (A : Nat → Addr) : Prop where
  range : w.cell? ⟨3, 0, none⟩ = some (errV A 1)
  form : w.cell? ⟨5, 0, none⟩ = some (errV A 4)
theorem RFErrs.grown {w w' : World} {A : Nat → Addr} (h : RFErrs w A) (hg : w.grownBy w' none) : RFErrs w' A :=
  ⟨(World.cell?_of_block (hg.block _ (World.block_lt_of_cell? w _ h.range) (by simp))).trans h.range, (World.cell?_of_block (hg.block _ (World.block_lt_of_cell? w _ h.form) (by simp))).trans h.form⟩
theorem AllErrs.rf {w : World} {A : Nat → Addr} (h : AllErrs w A) : RFErrs w A := ⟨err_range h, err_form h⟩
/-- What bullanum.Num answers of what a call hands on. -/
def errOf (A : Nat → Addr) (k : Nat) : Value := if k = 0 then .nilIface else errV A k
theorem num_of (A : Nat → Addr) (k : Nat) (hk : k ≤ 28) (w : World) (hA : AllErrs w A) :
    Calls Tryz.prog 14 #[errOf A k] w fun e w' => e = .returned (.int .i64 k) ∧ w.grownBy w' none := by
  unfold errOf
  split
  · rename_i h
    subst h
    exact (num_nil w).mono (by rintro e w' ⟨rfl, rfl⟩; exact ⟨rfl, grown_refl _ _⟩)
  · have h := num_err A (k - 1) (by omega) w hA
    rw [show k - 1 + 1 = k by omega] at h
    exact h
end Go.Proofs.YtgahhbompnbcdaaGreatDoor
namespace Go.Proofs.YtgahhbompnbcdaaGreatDoor
open Go.RowKit
set_option linter.unusedVariables false
def errRow (A : Nat → Addr) : Array Value := #[.nilIface, errV A 1, errV A 2, errV A 3, errV A 4, errV A 5, errV A 6, errV A 7, errV A 8, errV A 9, errV A 10, errV A 11, errV A 12, errV A 13, errV A 14, errV A 15, errV A 16, errV A 17, errV A 18, errV A 19, errV A 20, errV A 21, errV A 22, errV A 23, errV A 24, errV A 25, errV A 26, errV A 27, errV A 28]
theorem errRow_at (A : Nat → Addr) (n : Nat) (h1 : 1 ≤ n) (h2 : n ≤ 28) : (errRow A)[n]? = some (errV A n) := by
  match n, h1, h2 with
    | 1, _, _ => rfl
    | 2, _, _ => rfl
    | 3, _, _ => rfl
    | 4, _, _ => rfl
    | 5, _, _ => rfl
    | 6, _, _ => rfl
    | 7, _, _ => rfl
    | 8, _, _ => rfl
    | 9, _, _ => rfl
    | 10, _, _ => rfl
    | 11, _, _ => rfl
    | 12, _, _ => rfl
    | 13, _, _ => rfl
    | 14, _, _ => rfl
    | 15, _, _ => rfl
    | 16, _, _ => rfl
    | 17, _, _ => rfl
    | 18, _, _ => rfl
    | 19, _, _ => rfl
    | 20, _, _ => rfl
    | 21, _, _ => rfl
    | 22, _, _ => rfl
    | 23, _, _ => rfl
    | 24, _, _ => rfl
    | 25, _, _ => rfl
    | 26, _, _ => rfl
    | 27, _, _ => rfl
    | 28, _, _ => rfl
    | k + 29, _, h => omega
set_option maxRecDepth 100000 in
set_option maxHeartbeats 2000000 in
theorem numErr_any (A : Nat → Addr) (n : Nat) (h1 : 1 ≤ n) (h2 : n ≤ 28) (w : World) (hE : AllErrs w A) : Calls Tryz.prog 42 #[.int .i64 (n : Int)] w fun e w' => e = .returned (errV A n) ∧ w.grownBy w' none := by
  have e1 := errs_at hE 1 (by decide)
  have e2 := errs_at hE 2 (by decide)
  have e3 := errs_at hE 3 (by decide)
  have e4 := errs_at hE 4 (by decide)
  have e5 := errs_at hE 5 (by decide)
  have e6 := errs_at hE 6 (by decide)
  have e7 := errs_at hE 7 (by decide)
  have e8 := errs_at hE 8 (by decide)
  have e9 := errs_at hE 9 (by decide)
  have e10 := errs_at hE 10 (by decide)
  have e11 := errs_at hE 11 (by decide)
  have e12 := errs_at hE 12 (by decide)
  have e13 := errs_at hE 13 (by decide)
  have e14 := errs_at hE 14 (by decide)
  have e15 := errs_at hE 15 (by decide)
  have e16 := errs_at hE 16 (by decide)
  have e17 := errs_at hE 17 (by decide)
  have e18 := errs_at hE 18 (by decide)
  have e19 := errs_at hE 19 (by decide)
  have e20 := errs_at hE 20 (by decide)
  have e21 := errs_at hE 21 (by decide)
  have e22 := errs_at hE 22 (by decide)
  have e23 := errs_at hE 23 (by decide)
  have e24 := errs_at hE 24 (by decide)
  have e25 := errs_at hE 25 (by decide)
  have e26 := errs_at hE 26 (by decide)
  have e27 := errs_at hE 27 (by decide)
  have e28 := errs_at hE 28 (by decide)
  simp only [errVars, List.getD_cons_zero, List.getD_cons_succ, Nat.add_one_sub_one, Nat.reduceSub] at e1 e2 e3 e4 e5 e6 e7 e8 e9 e10 e11 e12 e13 e14 e15 e16 e17 e18 e19 e20 e21 e22 e23 e24 e25 e26 e27 e28
  have n0 : ¬ (n : Int) < 0 := by omega
  have n1 : ¬ (29 : Int) ≤ (n : Int) := by omega
  have n2 : (n : Int) < 29 := by omega
  have n3 : (0 : Int) ≤ (n : Int) := by omega
  have HR := Lib.hid (errRow_at A n h1 h2)
  have HCell : Hid ((w.alloc (.cells (errRow A) 29)).cell? ⟨w.heap.size, n, none⟩ = some (errV A n)) := Lib.hid (cell_blk (alloc_at w _) n HR.out)
  clear hE
  have q := HCell.out
  unfold errRow at q
  go_enter Tryz.func42, Tryz.ntmps42
  go_wp2
  go_ret
  exact ⟨rfl, grown_alloc (grown_refl _ _) _⟩
set_option maxRecDepth 100000 in
theorem rdFail0n {w : World} {b : Nat} {lv ov : Value} (hb : w.heap[b]? = some (.cells #[lv, ov, .nilIface] 104 (0, 0))) : Calls Tryz.prog 43 #[.pointer (some ⟨b, 0, none⟩), .nilIface] w fun e w' => e = .returned (.tuple #[]) ∧ w' = w.setCell ⟨b, 2, none⟩ .nilIface := by
  have c0 := cell_blk hb 0 rfl
  have c1 := cell_blk hb 1 rfl
  have c2 := cell_blk hb 2 rfl
  have f2 := free_blk hb 2
  have hlt := blk_lt hb
  go_enter Tryz.func43, Tryz.ntmps43
  go_wp2
  go_returns
  exact ⟨rfl, rfl⟩
set_option maxRecDepth 100000 in
theorem rdFail0e {w : World} {b : Nat} {lv ov : Value} (hb : w.heap[b]? = some (.cells #[lv, ov, .nilIface] 104 (0, 0))) (A : Nat → Addr) (k : Nat) : Calls Tryz.prog 43 #[.pointer (some ⟨b, 0, none⟩), errV A k] w fun e w' => e = .returned (.tuple #[]) ∧ w' = w.setCell ⟨b, 2, none⟩ (errV A k) := by
  have c0 := cell_blk hb 0 rfl
  have c1 := cell_blk hb 1 rfl
  have c2 := cell_blk hb 2 rfl
  have f2 := free_blk hb 2
  have hlt := blk_lt hb
  go_enter Tryz.func43, Tryz.ntmps43
  go_wp2
  go_returns
  exact ⟨rfl, rfl⟩
set_option maxRecDepth 100000 in
theorem rdFail1 {w : World} {b : Nat} {lv ov : Value} {A : Nat → Addr} {k : Nat} (hb : w.heap[b]? = some (.cells #[lv, ov, errV A k] 104 (0, 0))) (x : Value) : Calls Tryz.prog 43 #[.pointer (some ⟨b, 0, none⟩), x] w fun e w' => e = .returned (.tuple #[]) ∧ w' = w := by
  have c0 := cell_blk hb 0 rfl
  have c1 := cell_blk hb 1 rfl
  have c2 := cell_blk hb 2 rfl
  have f2 := free_blk hb 2
  have hlt := blk_lt hb
  go_enter Tryz.func43, Tryz.ntmps43
  go_wp2
  go_returns
  exact ⟨rfl, rfl⟩
set_option maxRecDepth 100000 in
theorem rdErr0 {w : World} {b : Nat} {lv ov : Value} (hb : w.heap[b]? = some (.cells #[lv, ov, .nilIface] 104 (0, 0))) : Calls Tryz.prog 25 #[.pointer (some ⟨b, 0, none⟩)] w fun e w' => e = .returned .nilIface ∧ w' = w := by
  have c0 := cell_blk hb 0 rfl
  have c1 := cell_blk hb 1 rfl
  have c2 := cell_blk hb 2 rfl
  have f2 := free_blk hb 2
  have hlt := blk_lt hb
  go_enter Tryz.func25, Tryz.ntmps25
  go_wp2
  go_ret
  exact ⟨rfl, rfl⟩
set_option maxRecDepth 100000 in
theorem rdErr1 {w : World} {b : Nat} {lv ov : Value} {A : Nat → Addr} {k : Nat} (hb : w.heap[b]? = some (.cells #[lv, ov, errV A k] 104 (0, 0))) : Calls Tryz.prog 25 #[.pointer (some ⟨b, 0, none⟩)] w fun e w' => e = .returned (errV A k) ∧ w' = w := by
  have c0 := cell_blk hb 0 rfl
  have c1 := cell_blk hb 1 rfl
  have c2 := cell_blk hb 2 rfl
  have f2 := free_blk hb 2
  have hlt := blk_lt hb
  go_enter Tryz.func25, Tryz.ntmps25
  go_wp2
  go_ret
  exact ⟨rfl, rfl⟩
set_option maxRecDepth 100000 in
theorem rdEnd1 {w : World} {b : Nat} {lv ov : Value} {A : Nat → Addr} {k : Nat} (hb : w.heap[b]? = some (.cells #[lv, ov, errV A k] 104 (0, 0))) : Calls Tryz.prog 26 #[.pointer (some ⟨b, 0, none⟩)] w fun e w' => e = .returned (errV A k) ∧ w' = w := by
  have c0 := cell_blk hb 0 rfl
  have c1 := cell_blk hb 1 rfl
  have c2 := cell_blk hb 2 rfl
  have f2 := free_blk hb 2
  have hlt := blk_lt hb
  go_enter Tryz.func26, Tryz.ntmps26
  go_wp2
  go_ret
  exact ⟨rfl, rfl⟩
set_option maxRecDepth 100000 in
theorem rdMore0 {w : World} {b : Nat} {ov : Value} {a : Option Addr} {n c : Nat} (hn : 0 < n) (hb : w.heap[b]? = some (.cells #[.slice a n c, ov, .nilIface] 104 (0, 0))) : Calls Tryz.prog 21 #[.pointer (some ⟨b, 0, none⟩)] w fun e w' => e = .returned (.bool true) ∧ w' = w := by
  have c0 := cell_blk hb 0 rfl
  have c1 := cell_blk hb 1 rfl
  have c2 := cell_blk hb 2 rfl
  have f2 := free_blk hb 2
  have hlt := blk_lt hb
  have hn2 : (0 : Int) < (n : Int) := by omega
  go_enter Tryz.func21, Tryz.ntmps21
  go_wp2
  go_ret
  exact ⟨rfl, rfl⟩
set_option maxRecDepth 100000 in
theorem rdMore1 {w : World} {b : Nat} {lv ov : Value} {A : Nat → Addr} {k : Nat} (hb : w.heap[b]? = some (.cells #[lv, ov, errV A k] 104 (0, 0))) : Calls Tryz.prog 21 #[.pointer (some ⟨b, 0, none⟩)] w fun e w' => e = .returned (.bool false) ∧ w' = w := by
  have c0 := cell_blk hb 0 rfl
  have c1 := cell_blk hb 1 rfl
  have c2 := cell_blk hb 2 rfl
  have f2 := free_blk hb 2
  have hlt := blk_lt hb
  go_enter Tryz.func21, Tryz.ntmps21
  go_wp2
  go_ret
  exact ⟨rfl, rfl⟩
set_option maxRecDepth 100000 in
theorem rdPeek1 {w : World} {b : Nat} {lv ov : Value} {A : Nat → Addr} {k : Nat} (hb : w.heap[b]? = some (.cells #[lv, ov, errV A k] 104 (0, 0))) : Calls Tryz.prog 23 #[.pointer (some ⟨b, 0, none⟩)] w fun e w' => e = .returned (.int .i64 0) ∧ w' = w := by
  have c0 := cell_blk hb 0 rfl
  have c1 := cell_blk hb 1 rfl
  have c2 := cell_blk hb 2 rfl
  have f2 := free_blk hb 2
  have hlt := blk_lt hb
  have HM := Lib.hid (rdMore1 hb)
  go_enter Tryz.func23, Tryz.ntmps23
  go_wp2_with (go_at_call 21; refine HM.out.mono ?_; rintro e w2 ⟨rfl, rfl⟩)
  go_ret
  exact ⟨rfl, rfl⟩
set_option maxRecDepth 100000 in
theorem rdReadE1 {w : World} {b : Nat} {lv ov : Value} {A : Nat → Addr} {k : Nat} (hb : w.heap[b]? = some (.cells #[lv, ov, errV A k] 104 (0, 0))) (tag : Int) (fv : Value) : Calls Tryz.prog 81 #[.pointer (some ⟨b, 0, none⟩), .int .i64 tag, fv] w fun e w' => e = .returned (.slice none 0 0) ∧ w.grownBy w' none := by
  have c0 := cell_blk hb 0 rfl
  have c1 := cell_blk hb 1 rfl
  have c2 := cell_blk hb 2 rfl
  have f2 := free_blk hb 2
  have hlt := blk_lt hb
  go_enter Tryz.func81, Tryz.ntmps81
  go_wp2
  go_ret
  exact ⟨rfl, grown_refl _ _⟩
set_option maxRecDepth 100000 in
theorem rdReadI1 {w : World} {b : Nat} {lv ov : Value} {A : Nat → Addr} {k : Nat} (hb : w.heap[b]? = some (.cells #[lv, ov, errV A k] 104 (0, 0))) (tag : Int) (fv : Value) : Calls Tryz.prog 122 #[.pointer (some ⟨b, 0, none⟩), .int .i64 tag, fv] w fun e w' => e = .returned (.int .i64 0) ∧ w.grownBy w' none := by
  have c0 := cell_blk hb 0 rfl
  have c1 := cell_blk hb 1 rfl
  have c2 := cell_blk hb 2 rfl
  have f2 := free_blk hb 2
  have hlt := blk_lt hb
  go_enter Tryz.func122, Tryz.ntmps122
  go_wp2
  go_ret
  exact ⟨rfl, grown_refl _ _⟩
set_option maxRecDepth 100000 in
theorem rdNum1 {w : World} {b : Nat} {lv ov : Value} {A : Nat → Addr} {k : Nat} (hb : w.heap[b]? = some (.cells #[lv, ov, errV A k] 104 (0, 0))) (tag l m : Int) : Calls Tryz.prog 83 #[.pointer (some ⟨b, 0, none⟩), .int .i64 tag, .int .i64 l, .int .i64 m] w fun e w' => e = .returned (.int .i64 0) ∧ w.grownBy w' none := by
  have HR := Lib.hid (fun fv => rdReadI1 (alloc_keep (o := .cells #[.int .i64 m] 3) (alloc_keep (o := .cells #[.int .i64 l] 3) hb)) tag fv)
  clear hb
  go_enter Tryz.func83, Tryz.ntmps83
  go_wp2_with (go_at_call 122; refine (HR.out _).mono ?_; rintro e w2 ⟨rfl, hg2⟩; have HG2 := Lib.hid (grown_trans (grown_alloc (grown_alloc (grown_refl _ _) _) _) hg2); clear hg2)
  go_ret
  exact ⟨rfl, HG2.out⟩
set_option maxRecDepth 100000 in
theorem rdInt1 {w : World} {b : Nat} {lv ov : Value} {A : Nat → Addr} {k : Nat} (hb : w.heap[b]? = some (.cells #[lv, ov, errV A k] 104 (0, 0))) (l m : Int) : Calls Tryz.prog 44 #[.pointer (some ⟨b, 0, none⟩), .int .i64 l, .int .i64 m] w fun e w' => e = .returned (.int .i64 0) ∧ w.grownBy w' none := by
  have HR := Lib.hid (rdNum1 hb 2 l m)
  clear hb
  go_enter Tryz.func44, Tryz.ntmps44
  go_wp2_with (go_at_call 83; refine HR.out.mono ?_; rintro e w2 ⟨rfl, hg2⟩; have HG2 := Lib.hid hg2; clear hg2)
  go_ret
  exact ⟨rfl, HG2.out⟩
set_option maxRecDepth 100000 in
theorem rdEnter1 {w : World} {b : Nat} {lv ov : Value} {A : Nat → Addr} {k : Nat} (hb : w.heap[b]? = some (.cells #[lv, ov, errV A k] 104 (0, 0))) (tag : Int) : Calls Tryz.prog 33 #[.pointer (some ⟨b, 0, none⟩), .int .i64 tag] w fun e w' => e = .returned (.bool false) ∧ w.grownBy w' none := by
  have hb1 := alloc_keep (o := .cells #[.int .i64 tag] 3) hb
  have HR := Lib.hid (fun fv => rdReadE1 hb1 tag fv)
  have HB1 := Lib.hid hb1
  have hlt := blk_lt hb
  clear hb hb1
  go_enter Tryz.func33, Tryz.ntmps33
  go_wp2_with (go_at_call 81; refine (HR.out _).mono ?_; rintro e w2 ⟨rfl, hg2⟩; have hb2 := (hg2.block b (blk_lt HB1.out) (by simp)).trans HB1.out; have c2 := cell_blk hb2 2 rfl; have HG2 := Lib.hid (grown_trans (grown_alloc (grown_refl _ _) _) hg2); clear hg2 hb2)
  go_ret
  exact ⟨rfl, HG2.out⟩
end Go.Proofs.YtgahhbompnbcdaaGreatDoor
