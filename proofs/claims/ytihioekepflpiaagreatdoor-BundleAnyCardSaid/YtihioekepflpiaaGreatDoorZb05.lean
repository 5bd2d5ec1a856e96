import Derived.Test.YtihioekepflpiaaGreatDoorZb00
import Derived.Test.YtihioekepflpiaaGreatDoorChecked
import Derived.WalkKit
import Derived.Lib.Hide
import Derived.LaidEql
import Derived.Stop.Asserts
import Derived.RowKitTokens
set_option linter.unusedVariables false
set_option linter.unusedSimpArgs false
namespace Go.Proofs.YtihioekepflpiaaGreatDoor
open Go.RowKit
def cmpI (x y : Int) : Int := if x < y then -1 else if y < x then 1 else 0
set_option maxRecDepth 100000 in
theorem isNaN_any (x : Int) (w : World) : Calls Tryz.prog 70 #[.int .i64 x] w fun e w' => e = .returned (.bool false) ∧ w' = w := by
  have hb : (x != x) = false := by simp
  go_enter Tryz.func70, Tryz.ntmps70
  go_wp2
  go_ret
  exact ⟨rfl, rfl⟩
set_option maxRecDepth 100000 in
theorem cmpInt_any (x y : Int) (w : World) : Calls Tryz.prog 46 #[.int .i64 x, .int .i64 y] w fun e w' => e = .returned (.int .i64 (cmpI x y)) ∧ w' = w := by
  have HN := Lib.hid (fun (z : Int) (W : World) => isNaN_any z W)
  have H1 : x < y → Hid (cmpI x y = -1) := fun h => by rw [cmpI, if_pos h]; exact rfl
  have H2 : ¬ x < y → y < x → Hid (cmpI x y = 1) := fun h h' => by rw [cmpI, if_neg h, if_pos h']; exact rfl
  have H3 : ¬ x < y → ¬ y < x → Hid (cmpI x y = 0) := fun h h' => by rw [cmpI, if_neg h, if_neg h']; exact rfl
  by_cases hxy : x < y
  · have HX := H1 hxy
    clear H1 H2 H3
    generalize cmpI x y = c at *
    go_enter Tryz.func46, Tryz.ntmps46
    go_wp2_with (go_at_call 70; refine (HN.out _ _).mono ?_; rintro e w1 ⟨rfl, rfl⟩)
    go_ret
    exact ⟨by rw [HX.out]; rfl, rfl⟩
  · by_cases hyx : y < x
    · have HX := H2 hxy hyx
      clear H1 H2 H3
      generalize cmpI x y = c at *
      go_enter Tryz.func46, Tryz.ntmps46
      go_wp2_with (go_at_call 70; refine (HN.out _ _).mono ?_; rintro e w1 ⟨rfl, rfl⟩)
      go_ret
      exact ⟨by rw [HX.out]; rfl, rfl⟩
    · have HX := H3 hxy hyx
      clear H1 H2 H3
      generalize cmpI x y = c at *
      go_enter Tryz.func46, Tryz.ntmps46
      go_wp2_with (go_at_call 70; refine (HN.out _ _).mono ?_; rintro e w1 ⟨rfl, rfl⟩)
      go_ret
      exact ⟨by rw [HX.out]; rfl, rfl⟩
end Go.Proofs.YtihioekepflpiaaGreatDoor
namespace Go.Proofs.YtihioekepflpiaaGreatDoor
open Go.RowKit Go.Extern.Stop Go.Stop Go.Extern
noncomputable def rtypeOf : Value := .agg #[.pointer (some ⟨Tryz.prog.globals.size, 185, none⟩)]
theorem isTypeOf (v : Value) (w : World) : (Extern.ReflectliteType.typeOf #[.iface 185 v]).run Tryz.prog w = .ok (.iface 116 rtypeOf) w := by kernel_rfl
noncomputable def cmpEntry : Array Value → Sem Value := Extern.ReflectliteType.method fun t => do Extern.Rtype.noPackHeld "Comparable" t; pure (.bool (← typeInfo t).comparable)
theorem isComparable (w : World) : (cmpEntry #[rtypeOf]).run Tryz.prog w = .ok (.bool true) w := by kernel_rfl
theorem isMethod (n : Nat) (v : Value) (w : World) : (Go.method (n + 1) 116 v "Comparable").run Tryz.prog w = .ok (155, v) w := by kernel_rfl
theorem isComp : (Tryz.prog.info? 185).map (·.comparable) = some true := by kernel_rfl
theorem isSize : (Tryz.prog.info? 210).map (·.size) = some 1 := by kernel_rfl
theorem noIsE (v : Value) (xT : TypeId) (w : World) : (Instr.typeAssert (.iface 185 v) xT 118 true).run Tryz.prog w = .ok (.tuple #[.nilIface, .bool false]) w := run_typeAssert_lacksB Tryz.underlying118 (by kernel_rfl) (by kernel_rfl) v xT w
theorem noUnwrapE (v : Value) (xT : TypeId) (w : World) : (Instr.typeAssert (.iface 185 v) xT 121 true).run Tryz.prog w = .ok (.tuple #[.nilIface, .bool false]) w := run_typeAssert_lacksB Tryz.underlying121 (by kernel_rfl) (by kernel_rfl) v xT w
theorem noUnwrapsE (v : Value) (xT : TypeId) (w : World) : (Instr.typeAssert (.iface 185 v) xT 123 true).run Tryz.prog w = .ok (.tuple #[.nilIface, .bool false]) w := run_typeAssert_lacksB Tryz.underlying123 (by kernel_rfl) (by kernel_rfl) v xT w
set_option maxRecDepth 100000 in
/-- errors.Is(x, x), x a pointer to an errors.errorString. -/
theorem is_same (a : Addr) (w : World) :
    Calls Tryz.prog 30 #[.iface 185 (.pointer (some a)), .iface 185 (.pointer (some a))] w fun e w' => e = .returned (.bool true) ∧ w' = w := by
  obtain ⟨i, hi, hcmp⟩ := Option.map_eq_some_iff.1 isComp
  obtain ⟨j, hj, hjs⟩ := Option.map_eq_some_iff.1 isSize
  have h8 := @run_callFunc_extern Tryz.prog 48 _ Extern.ReflectliteType.typeOf Tryz.func48 (by kernel_rfl) (by kernel_rfl) (by kernel_rfl) (by kernel_rfl)
  have h32 := @run_callFunc_extern Tryz.prog 155 _ cmpEntry Tryz.func155 (by kernel_rfl) (by kernel_rfl) (by kernel_rfl) (by kernel_rfl)
  have tT := isTypeOf
  have cT := isComparable
  have mR := isMethod
  have heq := run_eql_iface_ptr_same (P := Tryz.prog) w a Tryz.underlying37 Tryz.underlying185 hi hcmp hj
  go_enter Tryz.func30, Tryz.ntmps30
  go_wp2
  refine wp_loop_rounds 1 ?_
  rw [rounds_succ]
  go_wp2
  go_ret
  exact ⟨rfl, rfl⟩
set_option maxRecDepth 100000 in
/-- errors.Is(x, y), two different pointers to errors.errorString: neither has Is nor Unwrap: false. -/
theorem is_other (a b : Addr) (ca cb : Array Value) (ta tb : TypeId) (w : World) (hne : a ≠ b) (ha : w.heap[a.block]? = some (.cells ca ta (0, 0))) (hb : w.heap[b.block]? = some (.cells cb tb (0, 0))) :
    Calls Tryz.prog 30 #[.iface 185 (.pointer (some a)), .iface 185 (.pointer (some b))] w fun e w' => e = .returned (.bool false) ∧ w' = w := by
  obtain ⟨i, hi, hcmp⟩ := Option.map_eq_some_iff.1 isComp
  obtain ⟨j, hj, hjs⟩ := Option.map_eq_some_iff.1 isSize
  have h8 := @run_callFunc_extern Tryz.prog 48 _ Extern.ReflectliteType.typeOf Tryz.func48 (by kernel_rfl) (by kernel_rfl) (by kernel_rfl) (by kernel_rfl)
  have h32 := @run_callFunc_extern Tryz.prog 155 _ cmpEntry Tryz.func155 (by kernel_rfl) (by kernel_rfl) (by kernel_rfl) (by kernel_rfl)
  have tT := isTypeOf
  have cT := isComparable
  have mR := isMethod
  have nE := noIsE
  have uE := noUnwrapE
  have vE := noUnwrapsE
  have heq := run_eql_iface_ptr_other (P := Tryz.prog) w Tryz.underlying37 Tryz.underlying185 hi hcmp hj (by rw [hjs]; decide) hne ha hb
  go_enter Tryz.func30, Tryz.ntmps30
  go_wp2
  refine wp_loop_rounds 1 ?_
  rw [rounds_succ]
  go_wp2
  go_ret
  exact ⟨rfl, rfl⟩
end Go.Proofs.YtihioekepflpiaaGreatDoor
namespace Go.Proofs.YtihioekepflpiaaGreatDoor
open Go.RowKit
/-- The errors' variables, in the order of the document's numbers. -/
def errVars : List Nat := [2, 3, 4, 5, 6, 7, 8, 9, 10, 11, 12, 13, 14, 15, 16, 17, 18, 1, 0, 19, 20, 21, 22, 23, 24, 25, 26, 27]
/-- All errors are laid, each with an address of its own. -/
structure AllErrs (w : World) (A : Nat → Addr) : Prop where
  at_ : ∀ i, i < 28 → w.cell? ⟨errVars.getD i 0, 0, none⟩ = some (.iface 185 (.pointer (some (A i))))
  lt : ∀ i, i < 28 → errVars.getD i 0 < w.heap.size
  there : ∀ i, i < 28 → ∃ cs t, w.heap[(A i).block]? = some (.cells cs t (0, 0))
  apart : ∀ i j, i < 28 → j < 28 → i ≠ j → A i ≠ A j
theorem AllErrs.grown {w w' : World} {A : Nat → Addr} (h : AllErrs w A) (hg : w.grownBy w' none) : AllErrs w' A :=
  ⟨fun i hi => by rw [World.cell?_of_block (hg.block _ (h.lt i hi) (by simp))]; exact h.at_ i hi, fun i hi => Nat.lt_of_lt_of_le (h.lt i hi) hg.size,
   fun i hi => by obtain ⟨cs, t, hb⟩ := h.there i hi; exact ⟨cs, t, (hg.block _ (blk_lt hb) (by simp)).trans hb⟩, h.apart⟩
theorem num_nil (w : World) : Calls Tryz.prog 12 #[.nilIface] w fun e w' => e = .returned (.int .i64 0) ∧ w' = w := by
  go_enter Tryz.func12, Tryz.ntmps12
  go_wp2
  go_ret
  exact ⟨rfl, rfl⟩
set_option maxRecDepth 100000 in
set_option maxHeartbeats 1000000 in
theorem num_err (A : Nat → Addr) (i : Nat) (hi : i < 28) (w : World) (hA : AllErrs w A) :
    Calls Tryz.prog 12 #[.iface 185 (.pointer (some (A i)))] w fun e w' => e = .returned (.int .i64 ((i + 1 : Nat) : Int)) ∧ w.grownBy w' none := by
  have e0 := hA.at_ 0 (by decide)
  have e1 := hA.at_ 1 (by decide)
  have e2 := hA.at_ 2 (by decide)
  have e3 := hA.at_ 3 (by decide)
  have e4 := hA.at_ 4 (by decide)
  have e5 := hA.at_ 5 (by decide)
  have e6 := hA.at_ 6 (by decide)
  have e7 := hA.at_ 7 (by decide)
  have e8 := hA.at_ 8 (by decide)
  have e9 := hA.at_ 9 (by decide)
  have e10 := hA.at_ 10 (by decide)
  have e11 := hA.at_ 11 (by decide)
  have e12 := hA.at_ 12 (by decide)
  have e13 := hA.at_ 13 (by decide)
  have e14 := hA.at_ 14 (by decide)
  have e15 := hA.at_ 15 (by decide)
  have e16 := hA.at_ 16 (by decide)
  have e17 := hA.at_ 17 (by decide)
  have e18 := hA.at_ 18 (by decide)
  have e19 := hA.at_ 19 (by decide)
  have e20 := hA.at_ 20 (by decide)
  have e21 := hA.at_ 21 (by decide)
  have e22 := hA.at_ 22 (by decide)
  have e23 := hA.at_ 23 (by decide)
  have e24 := hA.at_ 24 (by decide)
  have e25 := hA.at_ 25 (by decide)
  have e26 := hA.at_ 26 (by decide)
  have e27 := hA.at_ 27 (by decide)
  simp only [errVars, List.getD_cons_zero, List.getD_cons_succ] at e0 e1 e2 e3 e4 e5 e6 e7 e8 e9 e10 e11 e12 e13 e14 e15 e16 e17 e18 e19 e20 e21 e22 e23 e24 e25 e26 e27
  have HA := Lib.hid hA
  obtain ⟨w1, hw1⟩ : ∃ w1, w1 = w.alloc (.cells #[.iface 185 (.pointer (some (A 0))), .iface 185 (.pointer (some (A 1))), .iface 185 (.pointer (some (A 2))), .iface 185 (.pointer (some (A 3))), .iface 185 (.pointer (some (A 4))), .iface 185 (.pointer (some (A 5))), .iface 185 (.pointer (some (A 6))), .iface 185 (.pointer (some (A 7))), .iface 185 (.pointer (some (A 8))), .iface 185 (.pointer (some (A 9))), .iface 185 (.pointer (some (A 10))), .iface 185 (.pointer (some (A 11))), .iface 185 (.pointer (some (A 12))), .iface 185 (.pointer (some (A 13))), .iface 185 (.pointer (some (A 14))), .iface 185 (.pointer (some (A 15))), .iface 185 (.pointer (some (A 16))), .iface 185 (.pointer (some (A 17))), .iface 185 (.pointer (some (A 18))), .iface 185 (.pointer (some (A 19))), .iface 185 (.pointer (some (A 20))), .iface 185 (.pointer (some (A 21))), .iface 185 (.pointer (some (A 22))), .iface 185 (.pointer (some (A 23))), .iface 185 (.pointer (some (A 24))), .iface 185 (.pointer (some (A 25))), .iface 185 (.pointer (some (A 26))), .iface 185 (.pointer (some (A 27)))] 37) := ⟨_, rfl⟩
  have G1 : Hid (w.grownBy w1 none) := Lib.hid (by rw [hw1]; exact World.grownBy_alloc _ _ _)
  have B1 : Hid (∀ k, k < 28 → w1.cell? ⟨w.heap.size, k, none⟩ = some (.iface 185 (.pointer (some (A k))))) := Lib.hid (fun k hk => by
    rw [hw1]
    refine cell_blk (alloc_at w _) k ?_
    match k, hk with
    | 0, _ => rfl
    | 1, _ => rfl
    | 2, _ => rfl
    | 3, _ => rfl
    | 4, _ => rfl
    | 5, _ => rfl
    | 6, _ => rfl
    | 7, _ => rfl
    | 8, _ => rfl
    | 9, _ => rfl
    | 10, _ => rfl
    | 11, _ => rfl
    | 12, _ => rfl
    | 13, _ => rfl
    | 14, _ => rfl
    | 15, _ => rfl
    | 16, _ => rfl
    | 17, _ => rfl
    | 18, _ => rfl
    | 19, _ => rfl
    | 20, _ => rfl
    | 21, _ => rfl
    | 22, _ => rfl
    | 23, _ => rfl
    | 24, _ => rfl
    | 25, _ => rfl
    | 26, _ => rfl
    | 27, _ => rfl
    | n + 28, h => omega)
  have HS : Hid (∀ w', w.grownBy w' none → Calls Tryz.prog 30 #[.iface 185 (.pointer (some (A i))), .iface 185 (.pointer (some (A i)))] w' fun e w'' => e = .returned (.bool true) ∧ w'' = w') := Lib.hid (fun w' _ => is_same (A i) w')
  have HO : Hid (∀ k w', k < 28 → k ≠ i → w.grownBy w' none → Calls Tryz.prog 30 #[.iface 185 (.pointer (some (A i))), .iface 185 (.pointer (some (A k)))] w' fun e w'' => e = .returned (.bool false) ∧ w'' = w') := Lib.hid (fun k w' hk hne hg => by
    obtain ⟨c1, t1, h1⟩ := (hA.grown hg).there i hi
    obtain ⟨c2, t2, h2⟩ := (hA.grown hg).there k hk
    exact is_other (A i) (A k) c1 c2 t1 t2 w' (hA.apart i k hi hk (fun e => hne e.symm)) h1 h2)
  have HW1 := Lib.hid hw1
  clear hA hw1
  go_enter Tryz.func12, Tryz.ntmps12
  go_wp2
  rw [← HW1.out]
  clear e0 e1 e2 e3 e4 e5 e6 e7 e8 e9 e10 e11 e12 e13 e14 e15 e16 e17 e18 e19 e20 e21 e22 e23 e24 e25 e26 e27
  go_loopw [39] (fun j wr => ∃ k : Nat, k ≤ i ∧ j = .int .i64 k ∧ wr = w1) (fun j _ => 28 - (intOf j).toNat)
  case atStart => exact ⟨0, Nat.zero_le _, rfl, rfl⟩
  case round =>
    obtain ⟨k, hk, rfl, rfl⟩ := hrel
    have c1 := B1.out k (by omega)
    by_cases hki : k = i
    · subst hki
      go_wp2_with (go_at_call 30; refine (HS.out _ G1.out).mono ?_; rintro e w2 ⟨rfl, rfl⟩)
      go_ret
      exact ⟨by go_num, G1.out⟩
    · go_wp2_with (go_at_call 30; refine (HO.out k _ (by omega) hki G1.out).mono ?_; rintro e w2 ⟨rfl, rfl⟩)
      go_roundw
      case rel => exact ⟨k + 1, by omega, by go_num, by trivial⟩
      case measure => simp [intOf]; omega
end Go.Proofs.YtihioekepflpiaaGreatDoor
namespace Go.Proofs.YtihioekepflpiaaGreatDoor
open Go.RowKit
/-- The error of a number. -/
abbrev errV (A : Nat → Addr) (k : Nat) : Value := .iface 185 (.pointer (some (A (k - 1))))
theorem errs_at {w : World} {A : Nat → Addr} (h : AllErrs w A) (k : Nat) (hk : k - 1 < 28) : w.cell? ⟨errVars.getD (k - 1) 0, 0, none⟩ = some (errV A k) := h.at_ _ hk
theorem err_range {w : World} {A : Nat → Addr} (h : AllErrs w A) : w.cell? ⟨2, 0, none⟩ = some (errV A 1) := errs_at h 1 (by decide)
theorem err_short {w : World} {A : Nat → Addr} (h : AllErrs w A) : w.cell? ⟨3, 0, none⟩ = some (errV A 2) := errs_at h 2 (by decide)
/-- The two errors that package oids and package whole hand back of texts. -/
structure RFErrs (w : World) (A : Nat → Addr) : Prop where
  range : w.cell? ⟨2, 0, none⟩ = some (errV A 1)
  form : w.cell? ⟨5, 0, none⟩ = some (errV A 4)
theorem RFErrs.grown {w w' : World} {A : Nat → Addr} (h : RFErrs w A) (hg : w.grownBy w' none) : RFErrs w' A :=
  ⟨(World.cell?_of_block (hg.block _ (World.block_lt_of_cell? w _ h.range) (by simp))).trans h.range, (World.cell?_of_block (hg.block _ (World.block_lt_of_cell? w _ h.form) (by simp))).trans h.form⟩
/-- What bullanum.Num answers of what a call hands on. -/
def errOf (A : Nat → Addr) (k : Nat) : Value := if k = 0 then .nilIface else errV A k
theorem num_of (A : Nat → Addr) (k : Nat) (hk : k ≤ 28) (w : World) (hA : AllErrs w A) :
    Calls Tryz.prog 12 #[errOf A k] w fun e w' => e = .returned (.int .i64 k) ∧ w.grownBy w' none := by
  unfold errOf
  split
  · rename_i h
    subst h
    exact (num_nil w).mono (by rintro e w' ⟨rfl, rfl⟩; exact ⟨rfl, grown_refl _ _⟩)
  · have h := num_err A (k - 1) (by omega) w hA
    rw [show k - 1 + 1 = k by omega] at h
    exact h
end Go.Proofs.YtihioekepflpiaaGreatDoor
