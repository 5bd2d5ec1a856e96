import Derived.Test.YtihioekepflpiaaGreatDoorZb00
import Derived.Test.YtihioekepflpiaaGreatDoorZb01
import Derived.Test.YtihioekepflpiaaGreatDoorZb12
import Derived.Test.YtihioekepflpiaaGreatDoorZb19
import Derived.Deep.RegionHeld3
import Derived.Test.YtihioekepflpiaaGreatDoorRows
import Derived.WalkKit
import Derived.WalkSpells
import Derived.WalkLawsBesides
import Derived.Deep.QuietTactic
import Derived.BigQuiet
import Derived.Lib.Hide
import Derived.LoopTactic
import Derived.Deep.DeepCutAuto
set_option linter.unusedVariables false
set_option linter.unusedSimpArgs false
namespace Go.Proofs.YtihioekepflpiaaGreatDoor
open Go.RowKit
section
variable {P : Program}
end
theorem cat_take (L : List (List Nat)) {j : Nat} (hj : j < L.length) : (L.take (j + 1)).flatten = (L.take j).flatten ++ L.getD j [] := by
  rw [Pt.sort_take L hj, List.flatten_append]
  simp
theorem Each.lt {w : World} : ∀ {xs : List Value} {L : List (List Nat)}, Each w xs L → ∀ x ∈ L.flatten, x < 256
  | [], [], _, x, hx => by simp at hx
  | _ :: _, _ :: _, h, x, hx => by
    rw [List.flatten_cons, List.mem_append] at hx
    rcases hx with hx | hx
    · exact h.1.1.lt x hx
    · exact h.2.lt x hx
end Go.Proofs.YtihioekepflpiaaGreatDoor
namespace Go.Proofs.YtihioekepflpiaaGreatDoor
open Go.RowKit
theorem bytesV_set (T : Nat) (d : List Nat) (x : Nat) (h : d.length < T) :
    (bytesV (d ++ List.replicate (T - d.length) 0)).setIfInBounds d.length (.int .u8 (x : Int)) = bytesV ((d ++ [x]) ++ List.replicate (T - (d ++ [x]).length) 0) := by
  obtain ⟨m, hm⟩ : ∃ m, T - d.length = m + 1 := ⟨T - d.length - 1, by omega⟩
  have e : T - (d ++ [x]).length = m := by simp; omega
  rw [e, hm]
  simp [bytesV, List.replicate_succ]
theorem bytesV_zero (T : Nat) (d : List Nat) (h : d.length < T) : (bytesV (d ++ List.replicate (T - d.length) 0))[d.length]? = some (.int .u8 0) := by
  obtain ⟨m, hm⟩ : ∃ m, T - d.length = m + 1 := ⟨T - d.length - 1, by omega⟩
  rw [hm]
  simp [bytesV, List.replicate_succ]
end Go.Proofs.YtihioekepflpiaaGreatDoor
namespace Go.Proofs.YtihioekepflpiaaGreatDoor
open Go.RowKit
end Go.Proofs.YtihioekepflpiaaGreatDoor
namespace Go.Proofs.YtihioekepflpiaaGreatDoor
open Go.RowKit
def figS : ByteArray := ⟨#[48, 49, 50, 51, 52, 53, 54, 55, 56, 57, 97, 98, 99, 100, 101, 102]⟩
end Go.Proofs.YtihioekepflpiaaGreatDoor
namespace Go.Proofs.YtihioekepflpiaaGreatDoor
open Go.RowKit
end Go.Proofs.YtihioekepflpiaaGreatDoor
namespace Go.Proofs.YtihioekepflpiaaGreatDoor
open Go.RowKit
end Go.Proofs.YtihioekepflpiaaGreatDoor
