/- The region of the document's Put of identifiers that draws its order. -/
import Derived.Test.YtpjhkmdlegjdaaaDoorFl5
import Derived.Test.YtpjhkmdlegjdaaaDoorMs4
namespace Go.Proofs.YtpjhkmdlegjdaaaDoor
open Go.RowKit

/-- A value that is a row of its own from a block on, of these bytes. -/
def isOB (l : List Nat) (base : Nat) : Value → World → Prop := fun x w => w.ownsRow base 5 1 x l.length (cellsL l)
theorem stays_isOB (l : List Nat) (base : Nat) : Stays (isOB l base) := fun _ _ _ hg h => World.ownsRow.kept h hg (Classical.em _)

noncomputable def op_regionC : Code := regionIn Tryd.f13.body 1
set_option linter.unusedVariables false
set_option maxRecDepth 100000 in
set_option maxHeartbeats 1000000 in
theorem op_region (a : Act) (sb so n c : Nat) (x y : Nat) (B : List Nat) (W w : World) (Q : Exit → Act → World → Prop) (hsz : a.tmps.size = 28)
    (h0 : a.eval (.tmp 0) = .slice (some ⟨sb, so, none⟩) n c)
    (hn : 1 < n)
    (h0c : ∀ w, W.grownBy w none → w.cell? ⟨sb, so + 0, none⟩ = some (.int .i64 ((x : Nat) : Int)))
    (h1c : ∀ w, W.grownBy w none → w.cell? ⟨sb, so + 1, none⟩ = some (.int .i64 ((y : Nat) : Int)))
    (hm : IntKind.i64.wrap (40 * ((x : Nat) : Int)) = ((40 * x : Nat) : Int))
    (ha : IntKind.i64.wrap (((40 * x : Nat) : Int) + ((y : Nat) : Int)) = ((40 * x + y : Nat) : Int))
    (hS : ∀ w, W.grownBy w none → Calls Tryd.prog 30 #[.int .i64 ((40 * x + y : Nat) : Int)] w fun e w' => ∃ v, e = .returned v ∧ w.grownBy w' none ∧ isOB B W.heap.size v w')
    (hw : W.grownBy { w with drawn := w.drawn + 1 } none)
    (hQ : ∀ us w' v, W.grownBy w' none → isOB B W.heap.size v w' → Q .normal ((fill a [6, 7, 8, 9, 10, 11, 12, 13, 14] us).put (some 3) v) w') : op_regionC.wp Tryd.prog Q a w := by
  have hst : StaysAll [isV (.slice (some ⟨sb, so, none⟩) n c), isV (.pointer (some ⟨sb, so + 0, none⟩)), isV (.int .i64 ((x : Nat) : Int)), isV (.int .i64 ((40 * x : Nat) : Int)), isV (.slice (some ⟨sb, so, none⟩) n c), isV (.pointer (some ⟨sb, so + 1, none⟩)), isV (.int .i64 ((y : Nat) : Int)), isV (.int .i64 ((40 * x + y : Nat) : Int)), isOB B W.heap.size] := ⟨stays_V _, stays_V _, stays_V _, stays_V _, stays_V _, stays_V _, stays_V _, stays_V _, stays_isOB _ _, trivial⟩
  conv => arg 2; whnf
  refine wp_region_flow 9 [6, 7, 8, 9, 10, 11, 12, 13, 14] (fun w' => W.grownBy w' none) (fun w w' => w.grownBy w' none) (flF [isV (.slice (some ⟨sb, so, none⟩) n c), isV (.pointer (some ⟨sb, so + 0, none⟩)), isV (.int .i64 ((x : Nat) : Int)), isV (.int .i64 ((40 * x : Nat) : Int)), isV (.slice (some ⟨sb, so, none⟩) n c), isV (.pointer (some ⟨sb, so + 1, none⟩)), isV (.int .i64 ((y : Nat) : Int)), isV (.int .i64 ((40 * x + y : Nat) : Int)), isOB B W.heap.size]) (by kernel_rfl) (by kernel_rfl) (fun _ _ h k => grown_trans k h) (fun j x w w' hg h => flF_stays hst j x w w' hg h) hw ?_ ?_
  · refine ⟨?_, ?_, ?_, ?_, ?_, ?_, ?_, ?_, ?_, trivial⟩
    · exact flow_step (fun us w hC hd => wants_free rfl) (fun us w hC hd => ⟨_, w, move_val rfl ((fill_old (by rfl)).trans h0), grown_refl _ _, rfl⟩)
    · exact flow_step (fun us w hC hd => wants_free rfl) (fun us w hC hd => ⟨_, w, idx_val rfl ((fill_tmp (by rfl) (by rw [hsz]; decide)).trans (hd 0 (by decide))) rfl (idxI w sb so n c 0 (by omega)), grown_refl _ _, rfl⟩)
    · exact flow_step (fun us w hC hd => wants_free rfl) (fun us w hC hd => ⟨_, w, loadc_val rfl ((fill_tmp (by rfl) (by rw [hsz]; decide)).trans (hd 1 (by decide))) (loadI (h0c w hC)), grown_refl _ _, rfl⟩)
    · exact flow_step (fun us w hC hd => wants_free rfl) (fun us w hC hd => ⟨_, w, (mulint_val rfl rfl ((fill_tmp (by rfl) (by rw [hsz]; decide)).trans (hd 2 (by decide)))).trans (by rw [hm]), grown_refl _ _, rfl⟩)
    · exact flow_step (fun us w hC hd => wants_free rfl) (fun us w hC hd => ⟨_, w, move_val rfl ((fill_old (by rfl)).trans h0), grown_refl _ _, rfl⟩)
    · exact flow_step (fun us w hC hd => wants_free rfl) (fun us w hC hd => ⟨_, w, idx_val rfl ((fill_tmp (by rfl) (by rw [hsz]; decide)).trans (hd 4 (by decide))) rfl (idxI w sb so n c 1 (by omega)), grown_refl _ _, rfl⟩)
    · exact flow_step (fun us w hC hd => wants_free rfl) (fun us w hC hd => ⟨_, w, loadc_val rfl ((fill_tmp (by rfl) (by rw [hsz]; decide)).trans (hd 5 (by decide))) (loadI (h1c w hC)), grown_refl _ _, rfl⟩)
    · exact flow_step (fun us w hC hd => wants_free rfl) (fun us w hC hd => ⟨_, w, (addint_val rfl ((fill_tmp (by rfl) (by rw [hsz]; decide)).trans (hd 3 (by decide))) ((fill_tmp (by rfl) (by rw [hsz]; decide)).trans (hd 6 (by decide)))).trans (by rw [ha]), grown_refl _ _, rfl⟩)
    · refine flow_call 30 (fun us => #[us 13]) (fun us w hC hd => wants_free rfl) (fun us w => by rw [call_enter rfl (fun _ _ => by simp [go_sem]), List.map_toArray, List.map_cons, List.map_nil, fill_tmp (by rfl) (by rw [hsz]; decide)]) (fun us w hC' hd => ?_)
      rw [show us 13 = .int .i64 ((40 * x + y : Nat) : Int) from hd 7 (by decide)]
      exact hS w hC'
  · intro us w' hC' hd
    exact wpList_last rfl (assign_val rfl (fill_tmp (by rfl) (by rw [hsz]; decide))) (hQ us w' _ hC' (hd 8 (by decide)))
end Go.Proofs.YtpjhkmdlegjdaaaDoor
