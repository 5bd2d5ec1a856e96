/- The last region of the law ShaSum: it draws its order, makes memory and calls. -/
import Derived.Test.YtndgbhgalablfaaDoorFlow3
import Derived.Test.YtndgbhgalablfaaDoorTx2
import Derived.Test.YtndgbhgalablfaaDoorSh11
namespace Go.Proofs.YtndgbhgalablfaaDoor
open Go.RowKit

/-- What the last region's operations hand back. -/
def sumVals (D : Array Value) (S : ByteArray) (v sl : Value) : List Value := [.agg D, .agg D, .bool true, .bool true, v, undef, .agg D, .agg D, .bool true, .bool true, .bool true, .agg D, .string S, sl, .string S, .bool true, .bool true]
def sumF (D : Array Value) (S : ByteArray) (v sl : Value) (j : Nat) (x : Value) (w : World) : Prop :=
  if j = 5 then ∃ g, x = .slice (some ⟨g, 0, none⟩) 1 1 ∧ g < w.heap.size ∧ w.cell? ⟨g, 0, none⟩ = some v else x = (sumVals D S v sl).getD j undef
theorem sumF_stays {D : Array Value} {S : ByteArray} {v sl : Value} {j : Nat} {x : Value} {w w' : World} (hg : w.grownBy w' none) (h : sumF D S v sl j x w) : sumF D S v sl j x w' := by
  unfold sumF at h ⊢
  split at h
  · rename_i hj
    rw [if_pos hj]
    obtain ⟨g, h1, h2, h3⟩ := h
    exact ⟨g, h1, Nat.lt_of_lt_of_le h2 hg.size, by rw [World.cell?_of_block (hg.block g h2 (by simp))]; exact h3⟩
  · rename_i hj
    rw [if_neg hj]
    exact h


theorem digN_lt (s : Sha.St) : ∀ n, ∀ x ∈ Sha.digN s n, x < 256
  | 0 => by simp [Sha.digN]
  | n + 1 => by
    intro x hx
    simp only [Sha.digN, List.mem_append, List.mem_singleton] at hx
    rcases hx with hx | rfl
    · exact digN_lt s n x hx
    · exact Nat.mod_lt _ (by decide)
theorem sum_lt (M : List Nat) : ∀ x ∈ Sha.sum M, x < 256 := digN_lt _ 32
def regionsOf : Code → List Code
  | .seq a b => regionsOf a ++ regionsOf b
  | .cond _ a b => regionsOf a ++ regionsOf b
  | .block _ c => regionsOf c
  | .loop c => regionsOf c
  | .scope c => regionsOf c
  | .region i o d => [.region i o d]
  | _ => []
/-- The region of that number. -/
def regionAt (c : Option Code) (k : Nat) : Code := (((c.map regionsOf).getD []).find? fun r => match r with | .region i _ _ => i == k | _ => false).getD .skip

end Go.Proofs.YtndgbhgalablfaaDoor
