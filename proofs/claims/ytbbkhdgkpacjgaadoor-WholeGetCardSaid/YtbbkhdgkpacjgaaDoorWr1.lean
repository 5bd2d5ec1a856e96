/- The region of WholePut that draws its order. -/
import Derived.Test.YtbbkhdgkpacjgaaDoorFl4
import Derived.Test.YtbbkhdgkpacjgaaDoorWp5
namespace Go.Proofs.YtbbkhdgkpacjgaaDoor
open Go.RowKit

noncomputable def wp_region5C : Code := regionIn Tryd.f3.body 5
set_option linter.unusedVariables false
set_option maxRecDepth 100000 in
set_option maxHeartbeats 1000000 in
theorem wp_region5 (a : Act) (n : Int) (av : Option Addr) (L : Nat) (S : ByteArray) (B : List Nat) (W w : World) (Q : Exit → Act → World → Prop) (hsz : a.tmps.size = 51)
    (h5 : a.eval (.tmp 5) = .nilIface)
    (h4 : a.eval (.tmp 4) = .int .i64 n)
    (h0 : a.eval (.tmp 0) = .int .i64 n)
    (h3 : a.eval (.tmp 3) = .slice av L L)
    (hSa : ∀ w, W.grownBy w none → (convert 23 9 (.slice av L L)).run Tryd.prog w = .ok (.string S) w)
    (hSu : ∀ w x, Bytes w x B → (convert 23 9 x).run Tryd.prog w = .ok (.string S) w)
    (hP : ∀ w, W.grownBy w none → Calls Tryd.prog 10 #[.int .i64 n] w fun e w' => ∃ v, e = .returned v ∧ w.grownBy w' none ∧ isB B v w')
    (hS : ∀ w, Calls Tryd.prog 11 #[.int .i64 n] w fun e w' => e = .returned (.int .i64 L) ∧ w' = w)
    (hw : W.grownBy { w with drawn := w.drawn + 1 } none)
    (hQ : ∀ us w', W.grownBy w' none → Q .normal ((fill a [16, 17, 18, 19, 20, 21, 22, 23, 24, 25, 26, 27, 28, 29, 30, 31, 32, 33, 34, 35, 36] us).put (some 37) (.bool false)) w') : wp_region5C.wp Tryd.prog Q a w := by
  have hst : StaysAll [isV (.nilIface), isV (.bool false), isV (.bool false), isV (.int .i64 n), isV (.int .i64 n), isV (.bool false), isV (.bool false), isV (.bool false), isV (.slice av L L), isV (.string S), isV (.int .i64 n), isB B, isV (.string S), isV (.bool false), isV (.bool false), isV (.bool false), isV (.int .i64 n), isV (.int .i64 L), isV (.slice av L L), isV (.int .i64 L), isV (.bool false)] := ⟨stays_V _, stays_V _, stays_V _, stays_V _, stays_V _, stays_V _, stays_V _, stays_V _, stays_V _, stays_V _, stays_V _, stays_B _, stays_V _, stays_V _, stays_V _, stays_V _, stays_V _, stays_V _, stays_V _, stays_V _, stays_V _, trivial⟩
  conv => arg 2; whnf
  refine wp_region_flow 21 [16, 17, 18, 19, 20, 21, 22, 23, 24, 25, 26, 27, 28, 29, 30, 31, 32, 33, 34, 35, 36] (fun w' => W.grownBy w' none) (fun w w' => w.grownBy w' none) (flF [isV (.nilIface), isV (.bool false), isV (.bool false), isV (.int .i64 n), isV (.int .i64 n), isV (.bool false), isV (.bool false), isV (.bool false), isV (.slice av L L), isV (.string S), isV (.int .i64 n), isB B, isV (.string S), isV (.bool false), isV (.bool false), isV (.bool false), isV (.int .i64 n), isV (.int .i64 L), isV (.slice av L L), isV (.int .i64 L), isV (.bool false)]) (by kernel_rfl) (by kernel_rfl) (fun _ _ h k => grown_trans k h) (fun j x w w' hg h => flF_stays hst j x w w' hg h) hw ?_ ?_
  · refine ⟨?_, ?_, ?_, ?_, ?_, ?_, ?_, ?_, ?_, ?_, ?_, ?_, ?_, ?_, ?_, ?_, ?_, ?_, ?_, ?_, ?_, trivial⟩
    · exact flow_step (fun us w hC hd => wants_free rfl) (fun us w hC hd => ⟨_, w, move_val rfl ((fill_old (by rfl)).trans h5), grown_refl _ _, rfl⟩)
    · exact flow_step (fun us w hC hd => wants_free rfl) (fun us w hC hd => ⟨_, w, neqnil_val rfl ((fill_tmp (by rfl) (by rw [hsz]; decide)).trans (hd 0 (by decide))) (nilNe _), grown_refl _ _, rfl⟩)
    · exact flow_step (fun us w hC hd => wants_free rfl) (fun us w hC hd => ⟨_, w, move_val rfl ((fill_tmp (by rfl) (by rw [hsz]; decide)).trans (hd 1 (by decide))), grown_refl _ _, rfl⟩)
    · exact flow_step (fun us w hC hd => wants_on (d := 18) (b := false) rfl rfl (by rfl) (by rw [hsz]; decide) (hd 2 (by decide))) (fun us w hC hd => ⟨_, w, move_val rfl ((fill_old (by rfl)).trans h4), grown_refl _ _, rfl⟩)
    · exact flow_step (fun us w hC hd => wants_on (d := 18) (b := false) rfl rfl (by rfl) (by rw [hsz]; decide) (hd 2 (by decide))) (fun us w hC hd => ⟨_, w, move_val rfl ((fill_old (by rfl)).trans h0), grown_refl _ _, rfl⟩)
    · exact flow_step (fun us w hC hd => wants_on (d := 18) (b := false) rfl rfl (by rfl) (by rw [hsz]; decide) (hd 2 (by decide))) (fun us w hC hd => ⟨_, w, neqint_val rfl ((fill_tmp (by rfl) (by rw [hsz]; decide)).trans (hd 3 (by decide))) ((fill_tmp (by rfl) (by rw [hsz]; decide)).trans (hd 4 (by decide))), grown_refl _ _, rfl⟩)
    · exact flow_step (fun us w hC hd => wants_free rfl) (fun us w hC hd => ⟨_, w, pick_false rfl ((fill_tmp (by rfl) (by rw [hsz]; decide)).trans (hd 2 (by decide))) ((fill_tmp (by rfl) (by rw [hsz]; decide)).trans (hd 5 (by decide))), grown_refl _ _, rfl⟩)
    · exact flow_step (fun us w hC hd => wants_free rfl) (fun us w hC hd => ⟨_, w, move_val rfl ((fill_tmp (by rfl) (by rw [hsz]; decide)).trans (hd 6 (by decide))), grown_refl _ _, rfl⟩)
    · exact flow_step (fun us w hC hd => wants_on (d := 23) (b := false) rfl rfl (by rfl) (by rw [hsz]; decide) (hd 7 (by decide))) (fun us w hC hd => ⟨_, w, move_val rfl ((fill_old (by rfl)).trans h3), grown_refl _ _, rfl⟩)
    · exact flow_step (fun us w hC hd => wants_on (d := 23) (b := false) rfl rfl (by rfl) (by rw [hsz]; decide) (hd 7 (by decide))) (fun us w hC hd => ⟨_, w, conv_val rfl ((fill_tmp (by rfl) (by rw [hsz]; decide)).trans (hd 8 (by decide))) (hSa w hC), grown_refl _ _, rfl⟩)
    · exact flow_step (fun us w hC hd => wants_on (d := 23) (b := false) rfl rfl (by rfl) (by rw [hsz]; decide) (hd 7 (by decide))) (fun us w hC hd => ⟨_, w, move_val rfl ((fill_old (by rfl)).trans h0), grown_refl _ _, rfl⟩)
    · refine flow_call 10 (fun us => #[us 26]) (fun us w hC hd => wants_on (d := 23) (b := false) rfl rfl (by rfl) (by rw [hsz]; decide) (hd 7 (by decide))) (fun us w => by rw [call_enter rfl (fun _ _ => by simp [go_sem]), List.map_toArray, List.map_cons, List.map_nil, fill_tmp (by rfl) (by rw [hsz]; decide)]) (fun us w hC' hd => ?_)
      rw [show us 26 = .int .i64 n from hd 10 (by decide)]
      exact hP w hC'
    · exact flow_step (fun us w hC hd => wants_on (d := 23) (b := false) rfl rfl (by rfl) (by rw [hsz]; decide) (hd 7 (by decide))) (fun us w hC hd => ⟨_, w, conv_val rfl (fill_tmp (by rfl) (by rw [hsz]; decide)) (hSu w _ (hd 11 (by decide))), grown_refl _ _, rfl⟩)
    · exact flow_step (fun us w hC hd => wants_on (d := 23) (b := false) rfl rfl (by rfl) (by rw [hsz]; decide) (hd 7 (by decide))) (fun us w hC hd => ⟨_, w, neqstr_val rfl ((fill_tmp (by rfl) (by rw [hsz]; decide)).trans (hd 9 (by decide))) ((fill_tmp (by rfl) (by rw [hsz]; decide)).trans (hd 12 (by decide))), grown_refl _ _, rfl⟩)
    · exact flow_step (fun us w hC hd => wants_free rfl) (fun us w hC hd => ⟨_, w, pick_false rfl ((fill_tmp (by rfl) (by rw [hsz]; decide)).trans (hd 7 (by decide))) ((fill_tmp (by rfl) (by rw [hsz]; decide)).trans (hd 13 (by decide))), grown_refl _ _, rfl⟩)
    · exact flow_step (fun us w hC hd => wants_free rfl) (fun us w hC hd => ⟨_, w, move_val rfl ((fill_tmp (by rfl) (by rw [hsz]; decide)).trans (hd 14 (by decide))), grown_refl _ _, rfl⟩)
    · exact flow_step (fun us w hC hd => wants_on (d := 31) (b := false) rfl rfl (by rfl) (by rw [hsz]; decide) (hd 15 (by decide))) (fun us w hC hd => ⟨_, w, move_val rfl ((fill_old (by rfl)).trans h0), grown_refl _ _, rfl⟩)
    · refine flow_call 11 (fun us => #[us 32]) (fun us w hC hd => wants_on (d := 31) (b := false) rfl rfl (by rfl) (by rw [hsz]; decide) (hd 15 (by decide))) (fun us w => by rw [call_enter rfl (fun _ _ => by simp [go_sem]), List.map_toArray, List.map_cons, List.map_nil, fill_tmp (by rfl) (by rw [hsz]; decide)]) (fun us w hC' hd => ?_)
      rw [show us 32 = .int .i64 n from hd 16 (by decide)]
      exact (hS w).mono (by rintro e w' ⟨rfl, h⟩; rw [h]; exact ⟨_, rfl, grown_refl _ _, rfl⟩)
    · exact flow_step (fun us w hC hd => wants_on (d := 31) (b := false) rfl rfl (by rfl) (by rw [hsz]; decide) (hd 15 (by decide))) (fun us w hC hd => ⟨_, w, move_val rfl ((fill_old (by rfl)).trans h3), grown_refl _ _, rfl⟩)
    · exact flow_step (fun us w hC hd => wants_on (d := 31) (b := false) rfl rfl (by rfl) (by rw [hsz]; decide) (hd 15 (by decide))) (fun us w hC hd => ⟨_, w, len_val Tryd.underlying23 rfl ((fill_tmp (by rfl) (by rw [hsz]; decide)).trans (hd 18 (by decide))), grown_refl _ _, rfl⟩)
    · exact flow_step (fun us w hC hd => wants_on (d := 31) (b := false) rfl rfl (by rfl) (by rw [hsz]; decide) (hd 15 (by decide))) (fun us w hC hd => ⟨_, w, neqint_val rfl ((fill_tmp (by rfl) (by rw [hsz]; decide)).trans (hd 17 (by decide))) ((fill_tmp (by rfl) (by rw [hsz]; decide)).trans (hd 19 (by decide))), grown_refl _ _, rfl⟩)
  · intro us w' hC' hd
    exact wpList_last rfl (pick_false rfl ((fill_tmp (by rfl) (by rw [hsz]; decide)).trans (hd 15 (by decide))) ((fill_tmp (by rfl) (by rw [hsz]; decide)).trans (hd 20 (by decide)))) (hQ us w' hC')
end Go.Proofs.YtbbkhdgkpacjgaaDoor
