/- The walk of the law ShaHash. -/
import Derived.Test.YtckdkcfhkakcfaaDoorRf10
import Derived.Test.YtckdkcfhkakcfaaDoorAp2
import Derived.Test.YtckdkcfhkakcfaaDoorEq
import Derived.Test.YtckdkcfhkakcfaaDoorSh11
namespace Go.Proofs.YtckdkcfhkakcfaaDoor
open Go.RowKit

/-- The law's list: a bool and bytes each. -/
def StepsAt (w : World) (sb so : Nat) (steps : List (Bool × List Nat)) : Prop :=
  ∀ i, i < steps.length → ∃ v, w.cell? ⟨sb, so + i * 2, none⟩ = some (.bool (steps.getD i (false, [])).1) ∧ w.cell? ⟨sb, so + i * 2 + 1, none⟩ = some v ∧ Bytes w v (steps.getD i (false, [])).2 ∧ Whole0 v

/-- What the law holds from step to step: a hash, all bytes. -/
structure HashW (w wr : World) (hb : Nat) (s : Sha.HS) (v : Value) (M : List Nat) : Prop where
  grown : w.grownBy wr none
  le : w.heap.size ≤ hb
  hash : IsHash wr hb s
  rep : Sha.Rep s M
  own : wr.ownsRow w.heap.size 5 1 v M.length (cellsL M)
  lt : ∀ x ∈ M, x < 256

theorem own_ne_hash {wr : World} {base hb : Nat} {s : Sha.HS} {v : Value} {n : Nat} {xs : List Value} (ho : wr.ownsRow base 5 1 v n xs) (hH : IsHash wr hb s) : v.ownBlock ≠ some hb := by
  rcases ho.2 with ⟨rfl, _⟩ | ⟨g, cap, cur, rfl, _, hg, _⟩
  · intro e; cases e
  · intro e
    obtain rfl : g = hb := by simpa [Value.ownBlock] using e
    unfold IsHash at hH
    rw [hg] at hH
    simp at hH
/-- Whatever comes by growth, and may turn the hash: told anew. -/
theorem HashW.grow {w wr wr' : World} {hb : Nat} {s : Sha.HS} {v : Value} {M : List Nat} (h : HashW w wr hb s v M) (hg : wr.grownBy wr' none) : HashW w wr' hb s v M :=
  ⟨grown_trans h.grown hg, h.le, h.hash.grown hg (by simp), h.rep, h.own.kept hg (by
    rcases h' : v.ownBlock with _ | b
    · exact .inl rfl
    · exact .inr (by simp)), h.lt⟩
theorem HashW.bytes {w wr : World} {hb : Nat} {s : Sha.HS} {v : Value} {M : List Nat} (h : HashW w wr hb s v M) : Bytes wr v M := Bytes.own h.own h.lt
theorem HashW.whole {w wr : World} {hb : Nat} {s : Sha.HS} {v : Value} {M : List Nat} (h : HashW w wr hb s v M) : Whole0 v := Whole0.own h.own
/-- Behind a write of the hash. -/
theorem HashW.wrote {w wr wr' : World} {hb : Nat} {s s' : Sha.HS} {v : Value} {M : List Nat} (h : HashW w wr hb s v M) (hg : wr.grownBy wr' (some hb)) (hH : IsHash wr' hb s') :
    w.grownBy wr' none ∧ wr'.ownsRow w.heap.size 5 1 v M.length (cellsL M) :=
  ⟨grown_forget h.grown h.le hg, h.own.kept hg (.inr (own_ne_hash h.own h.hash))⟩
end Go.Proofs.YtckdkcfhkakcfaaDoor
