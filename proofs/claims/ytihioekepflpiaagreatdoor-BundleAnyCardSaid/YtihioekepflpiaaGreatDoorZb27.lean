import Derived.Test.YtihioekepflpiaaGreatDoorZb01
import Derived.Test.YtihioekepflpiaaGreatDoorZb11
import Derived.Test.YtihioekepflpiaaGreatDoorZb15
import Derived.Test.YtihioekepflpiaaGreatDoorZb19
import Derived.Test.YtihioekepflpiaaGreatDoorZb20
import Derived.Test.YtihioekepflpiaaGreatDoorZb25
import Derived.Test.YtihioekepflpiaaGreatDoorRows
import Derived.ProofKit
import Derived.OpenShut
import Derived.Lay
import Derived.Stop.LaidErr
import Derived.Below
import Derived.Carry
import Derived.LaidMore
import Derived.Lib.SmallJoins
import Derived.Deep.RegionHeld3
import Derived.BigQuiet
set_option linter.unusedVariables false
set_option linter.unusedSimpArgs false
namespace Go.Proofs.YtihioekepflpiaaGreatDoor
open Go.ChangeShapes Go.WideShapes Go.ChangeAt Go.RowKit
theorem own2 : ownKnob Tryz.prog.godebug = none := by kernel_rfl
theorem laidOut2 : laidOutB Tryz.prog = true := by kernel_rfl
theorem cEs : Tryz.prog.cellsOf 210 = 1 := by kernel_rfl
theorem cStr : Tryz.prog.cellsOf 9 = 1 := by kernel_rfl
theorem starEs : "*" ++ "errors.errorString" = "*errors.errorString" := by decide
theorem rowEs (u : TypeId) (h : Tryz.prog.typeName? 3 u = some "*errors.errorString") : u = 185 :=
  typeName_ptr_named (nm := "errors.errorString") (by rw [starEs]; kernel_rfl) (by kernel_rfl) (by decide) u (by rw [starEs]; exact h)
theorem var_lt {W : World} {n : String} {g : Nat} {cs : Array Value} (hg : Tryz.prog.globalNamed n = some g) (h : W.var? Tryz.prog n = some cs) : g < W.heap.size := by
  unfold World.var? at h
  rw [hg] at h
  simp only [Option.bind_some] at h
  rcases Nat.lt_or_ge g W.heap.size with h' | h'
  · exact h'
  · simp [Array.getElem?_eq_none h'] at h
theorem cell_lt {W : World} {a : Addr} {v : Value} (h : W.cell? a = some v) : a.block < W.heap.size := by
  rcases Nat.lt_or_ge a.block W.heap.size with h1 | h1
  · exact h1
  · unfold World.cell? at h
    simp [Array.getElem?_eq_none h1] at h
end Go.Proofs.YtihioekepflpiaaGreatDoor
namespace Go.Proofs.YtihioekepflpiaaGreatDoor
open Go.ChangeShapes Go.WideShapes Go.ChangeAt Go.RowKit
theorem cInt : Tryz.prog.cellsOf 3 = 1 := by kernel_rfl
end Go.Proofs.YtihioekepflpiaaGreatDoor
namespace Go.Proofs.YtihioekepflpiaaGreatDoor
open Go.ChangeShapes Go.WideShapes Go.ChangeAt Go.RowKit
section
variable {H : Type} {P : Program} {enc : TypeId × Value → H} {w : World} {base : Nat} {spare : Nat → Bool} {held : Bool}
end
/-- Values, as they lie one behind the other. -/
def ValsAt (W : World) (sb so : Nat) (xs : List De.Val) : Prop := ∀ i, i < xs.length → ∃ v S, W.cell? ⟨sb, so + i * 5, none⟩ = some (.int .i64 (xs.getD i De.none0).kind) ∧ W.cell? ⟨sb, so + i * 5 + 1, none⟩ = some (.int .i64 (xs.getD i De.none0).n) ∧ W.cell? ⟨sb, so + i * 5 + 2, none⟩ = some (.bool (xs.getD i De.none0).is) ∧
  W.cell? ⟨sb, so + i * 5 + 3, none⟩ = some v ∧ W.cell? ⟨sb, so + i * 5 + 4, none⟩ = some (.string S) ∧ Bytes W v (xs.getD i De.none0).b ∧ Whole0 v ∧ strL S = (xs.getD i De.none0).t ∧ De.I64 (xs.getD i De.none0).kind ∧ De.I64 (xs.getD i De.none0).n
theorem ValsAt.grown {W W' : World} {sb so : Nat} {xs : List De.Val} (h : ValsAt W sb so xs) (hg : W.grownBy W' none) (hb : 0 < xs.length → sb < W.heap.size) : ValsAt W' sb so xs := fun i hi => by
  obtain ⟨v, S, h0, h1, h2, h3, h4, h5, h6⟩ := h i hi
  have e : ∀ o, W'.cell? ⟨sb, o, none⟩ = W.cell? ⟨sb, o, none⟩ := fun o => World.cell?_of_block (hg.block sb (hb (by omega)) (by simp))
  exact ⟨v, S, by rw [e]; exact h0, by rw [e]; exact h1, by rw [e]; exact h2, by rw [e]; exact h3, by rw [e]; exact h4, h5.grown hg, h6⟩
end Go.Proofs.YtihioekepflpiaaGreatDoor
namespace Go.Proofs.YtihioekepflpiaaGreatDoor
open Go.RowKit
theorem lenB1 {n : Nat} (h : n < 128) : Tl.lenB n = [n] := by unfold Tl.lenB; rw [if_pos h]
theorem lenB2 {n : Nat} (h : ¬ n < 128) (h2 : n < 256) : Tl.lenB n = [129, n] := by
  unfold Tl.lenB Tl.more
  rw [if_neg h, if_neg h, if_pos h2]
  simp [Tl.be]
  omega
theorem lenB3 {n : Nat} (h : ¬ n < 256) (h2 : n < 65536) : Tl.lenB n = [130, n / 256, n % 256] := by
  unfold Tl.lenB Tl.more
  rw [if_neg (by omega), if_neg (by omega), if_neg h, if_pos h2]
  simp [Tl.be]
  omega
end Go.Proofs.YtihioekepflpiaaGreatDoor
namespace Go.Proofs.YtihioekepflpiaaGreatDoor
open Go.RowKit
/-- s with one more open. -/
def opd (s : De.St) (t : Nat) : De.St := { s with op := (t, []) :: s.op }
theorem tagsOf_opd (s : De.St) (t : Nat) : tagsOf (opd s t) = tagsOf s ++ [(t : Int)] := by simp [tagsOf, opd]
theorem levOf_opd (s : De.St) (t : Nat) (k : Nat) (hk : k ≤ s.op.length + 1) : levOf (opd s t) k = if k = s.op.length + 1 then [] else levOf s k := by
  obtain ⟨e, op, dn⟩ := s
  show levOf ⟨e, (t, []) :: op, dn⟩ k = _
  unfold levOf
  simp only [List.reverse_cons] at hk ⊢
  by_cases h0 : k = 0
  · subst h0; simp
  · rw [if_neg h0, if_neg h0]
    by_cases hq : k = op.length + 1
    · subst hq
      simp [List.getD_eq_getElem?_getD]
    · rw [if_neg hq]
      have : k - 1 < op.reverse.length := by simp; omega
      simp only [List.getD_eq_getElem?_getD]
      rw [List.getElem?_append_left this]
section
variable {W0 w w1 w' : World} {F : Nat → Prop} {b : Nat} {tv rv v1 : Value} {s : De.St}
end
end Go.Proofs.YtihioekepflpiaaGreatDoor
