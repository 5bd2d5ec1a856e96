import Derived.Test.YtndkifkhdollgaaGreatDoorZr00
import Derived.Test.YtndkifkhdollgaaGreatDoorChecked
import Derived.Lib.Strings
import Derived.Lib.Slices
import Derived.Lib.Small
import Derived.Lib.Walk
import Derived.Lib.Tables
import Derived.RegionTactic
import Derived.BigRegion
import Derived.BigQuiet
import Derived.Laws.BitsAllLaws
set_option linter.unusedVariables false
set_option linter.unusedSimpArgs false
namespace Go.Proofs.YtndkifkhdollgaaGreatDoor
open Go.RowKit
theorem rev8_tab : ∀ x : Fin 256, Lib.rev8 (x.val : Int) = (Pt.rev8 x.val : Nat) := by decide +kernel
/-- math/bits.Reverse16 as it is translated, its table behind its name. -/
def rev16F : Func :=
  { name := "math/bits.Reverse16", origin := "", params := #[221], resultTypes := #[221], nfree := 0, ntmps := 13, results := #[ResultVar.tmp 2],
    body := some ((Code.region 0 #[{ dst := some 2, op := Op.assign (Operand.const (Value.int IntKind.u16 0)), type := 221, pos := "bits.go:239", after := #[], guard := none }] false).seq
      ((Code.region 1
        #[{ dst := some 3, op := Op.move (Operand.tmp 0), type := 221, pos := "bits.go:240", after := #[], guard := none },
          { dst := some 4, op := Op.binOp BinOp.shr 221 (Operand.tmp 3) (Operand.const (Value.int IntKind.u64 8)) 223, type := 221, pos := "bits.go:240", after := #[{ on := 0, ground := Ground.data }], guard := none },
          { dst := some 5, op := Op.index 9 (Operand.const (Value.string Lib.rev8tab)) (Operand.tmp 4), type := 5, pos := "bits.go:240", after := #[{ on := 1, ground := Ground.data }], guard := none },
          { dst := some 6, op := Op.convert 5 221 (Operand.tmp 5), type := 221, pos := "bits.go:240", after := #[{ on := 2, ground := Ground.data }], guard := none },
          { dst := some 7, op := Op.move (Operand.tmp 0), type := 221, pos := "bits.go:240", after := #[], guard := none },
          { dst := some 8, op := Op.binOp BinOp.and 221 (Operand.tmp 7) (Operand.const (Value.int IntKind.u16 255)) 221, type := 221, pos := "bits.go:240", after := #[{ on := 4, ground := Ground.data }], guard := none },
          { dst := some 9, op := Op.index 9 (Operand.const (Value.string Lib.rev8tab)) (Operand.tmp 8), type := 5, pos := "bits.go:240", after := #[{ on := 5, ground := Ground.data }], guard := none },
          { dst := some 10, op := Op.convert 5 221 (Operand.tmp 9), type := 221, pos := "bits.go:240", after := #[{ on := 6, ground := Ground.data }], guard := none },
          { dst := some 11, op := Op.binOp BinOp.shl 221 (Operand.tmp 10) (Operand.const (Value.int IntKind.u64 8)) 223, type := 221, pos := "bits.go:240", after := #[{ on := 7, ground := Ground.data }], guard := none },
          { dst := some 12, op := Op.binOp BinOp.or 221 (Operand.tmp 6) (Operand.tmp 11) 221, type := 221, pos := "bits.go:240", after := #[{ on := 3, ground := Ground.data }, { on := 8, ground := Ground.data }], guard := none },
          { dst := some 2, op := Op.assign (Operand.tmp 12), type := 221, pos := "bits.go:240",
            after := #[{ on := 9, ground := Ground.data }, { on := 0, ground := Ground.phase }, { on := 1, ground := Ground.phase }, { on := 2, ground := Ground.phase }, { on := 3, ground := Ground.phase }, { on := 4, ground := Ground.phase }, { on := 5, ground := Ground.phase }, { on := 6, ground := Ground.phase }, { on := 7, ground := Ground.phase }, { on := 8, ground := Ground.phase }, { on := 9, ground := Ground.phase }], guard := none }]
        true).seq Code.ret)),
    norace := false, file := "math/bits/bits.go", endLine := 241, tmpNames := #["x", "x", "", "", "", "", "", "", "", "", "", "", ""] }
theorem rev16F_is : Tryz.prog.funcs[167]? = some rev16F := Tryz.func167.trans (congrArg some (by kernel_rfl))
theorem rev16F_tmps : rev16F.ntmps = 13 := rfl
theorem rev8_nat (n : Nat) (h : n < 256) : Lib.rev8 (n : Int) = (Pt.rev8 n : Nat) := by
  have := rev8_tab ⟨n, h⟩
  exact this
theorem index_rev8 {P : Program} (w : World) (t : TypeId) (ht : P.underlying t = some .string) (i : Int) (n : Nat) (hi : i = n) (h : n < 256) :
    (Instr.index t (.string Lib.rev8tab) (.int .u16 i)).run P w = .ok (.int .u8 (Pt.rev8 n : Nat)) w := by
  subst hi
  have h1 := Lib.run_index_rev8tab (P := P) w t .u16 (n : Int) ht (by omega) (by omega)
  rw [rev8_nat n h] at h1
  exact h1
theorem u16_low (x : Nat) (hx : x < 65536) : bits .and .u16 (x : Int) 255 = ((x % 256 : Nat) : Int) := by
  have h := u16_and_nat x 255 hx (by decide)
  rw [nat_mask8] at h
  exact h
theorem u16_two (a b : Nat) (ha : a < 256) (hb : b < 256) : bits .or .u16 (IntKind.u16.wrap (a : Int)) (IntKind.u16.wrap (IntKind.u16.wrap (b : Int) * 256)) = ((a + 256 * b : Nat) : Int) := by
  have e1 : IntKind.u16.wrap (a : Int) = (a : Int) := by rw [IntKind.wrap_u16]; omega
  have e2 : IntKind.u16.wrap (IntKind.u16.wrap (b : Int) * 256) = ((256 * b : Nat) : Int) := by rw [IntKind.wrap_u16, IntKind.wrap_u16]; omega
  rw [e1, e2, u16_or_nat _ _ (by omega) (by omega), nat_join8' _ _ (by omega) ha, Nat.add_comm]
set_option maxRecDepth 100000 in
theorem rev16_any (x : Nat) (hx : x < 65536) (w : World) :
    Calls Tryz.prog 167 #[.int .u16 x] w fun e w' => e = .returned (.int .u16 (Pt.rev8 (x / 256) + 256 * Pt.rev8 (x % 256) : Nat)) ∧ ∃ q, w' = w.drewN q := by
  have i1 : ∀ w : World, (Instr.index 9 (.string Lib.rev8tab) (.int .u16 ((x : Int) / 256))).run Tryz.prog w = .ok (.int .u8 (Pt.rev8 (x / 256) : Nat)) w := fun w =>
    index_rev8 w 9 Tryz.underlying9 _ (x / 256) (by omega) (by omega)
  have i2 : ∀ w : World, (Instr.index 9 (.string Lib.rev8tab) (.int .u16 (bits .and .u16 (x : Int) 255))).run Tryz.prog w = .ok (.int .u8 (Pt.rev8 (x % 256) : Nat)) w := fun w =>
    index_rev8 w 9 Tryz.underlying9 _ (x % 256) (u16_low x hx) (by omega)
  have hR := u16_two (Pt.rev8 (x / 256)) (Pt.rev8 (x % 256)) (Pt.rev8_lt _) (Pt.rev8_lt _)
  generalize Pt.rev8 (x / 256) = a at *
  generalize Pt.rev8 (x % 256) = b at *
  go_enter rev16F_is, rev16F_tmps
  go_wp2
  go_quiet (fail)
  go_wp2
  go_ret
  exact ⟨congrArg Ending.returned (congrArg (Value.int IntKind.u16) (by omega)), _, rfl⟩
end Go.Proofs.YtndkifkhdollgaaGreatDoor
