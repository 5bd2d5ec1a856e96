/- The regions of TextsFlags and TextsMask that draw their order. -/
import Derived.Test.YtbneggdfbkebcaaDoorFl5
namespace Go.Proofs.YtbneggdfbkebcaaDoor
open Go.RowKit

noncomputable def tf_regionC : Code := regionIn Tryd.f4.body 7
set_option linter.unusedVariables false
set_option maxRecDepth 100000 in
set_option maxHeartbeats 1000000 in
theorem tf_region (a : Act) (m : Int) (a3 : Option Addr) (n3 c3 : Nat) (S : ByteArray) (B : List Nat) (W w : World) (Q : Exit → Act → World → Prop) (hsz : a.tmps.size = 52)
    (h4 : a.eval (.tmp 4) = .nilIface)
    (h3 : a.eval (.tmp 3) = .slice a3 n3 c3)
    (h0 : a.eval (.tmp 0) = .int .i64 m)
    (h6 : a.eval (.tmp 6) = .nilIface)
    (h5 : a.eval (.tmp 5) = .int .i64 m)
    (hF : ∀ w, W.grownBy w none → Calls Tryd.prog 18 #[.int .i64 m] w fun e w' => ∃ v, e = .returned v ∧ w.grownBy w' none ∧ isB B v w')
    (hSa : ∀ w, W.grownBy w none → (convert 24 9 (.slice a3 n3 c3)).run Tryd.prog w = .ok (.string S) w)
    (hSu : ∀ w x, Bytes w x B → (convert 24 9 x).run Tryd.prog w = .ok (.string S) w)
    (hw : W.grownBy { w with drawn := w.drawn + 1 } none)
    (hQ : ∀ us w', W.grownBy w' none → Q .normal ((fill a [33, 34, 35, 36, 37, 38, 39, 40, 41, 42, 43, 44, 45, 46, 47, 48, 49, 50, 51] us).put (some 2) (.bool true)) w') : tf_regionC.wp Tryd.prog Q a w := by
  have hst : StaysAll [isV (.nilIface), isV (.bool true), isV (.bool true), isV (.slice a3 n3 c3), isV (.string S), isV (.int .i64 m), isB B, isV (.string S), isV (.bool true), isV (.bool true), isV (.bool true), isV (.nilIface), isV (.bool true), isV (.bool true), isV (.bool true), isV (.int .i64 m), isV (.int .i64 m), isV (.bool true), isV (.bool true)] := ⟨stays_V _, stays_V _, stays_V _, stays_V _, stays_V _, stays_V _, stays_B _, stays_V _, stays_V _, stays_V _, stays_V _, stays_V _, stays_V _, stays_V _, stays_V _, stays_V _, stays_V _, stays_V _, stays_V _, trivial⟩
  conv => arg 2; whnf
  refine wp_region_flow 19 [33, 34, 35, 36, 37, 38, 39, 40, 41, 42, 43, 44, 45, 46, 47, 48, 49, 50, 51] (fun w' => W.grownBy w' none) (fun w w' => w.grownBy w' none) (flF [isV (.nilIface), isV (.bool true), isV (.bool true), isV (.slice a3 n3 c3), isV (.string S), isV (.int .i64 m), isB B, isV (.string S), isV (.bool true), isV (.bool true), isV (.bool true), isV (.nilIface), isV (.bool true), isV (.bool true), isV (.bool true), isV (.int .i64 m), isV (.int .i64 m), isV (.bool true), isV (.bool true)]) (by kernel_rfl) (by kernel_rfl) (fun _ _ h k => grown_trans k h) (fun j x w w' hg h => flF_stays hst j x w w' hg h) hw ?_ ?_
  · refine ⟨?_, ?_, ?_, ?_, ?_, ?_, ?_, ?_, ?_, ?_, ?_, ?_, ?_, ?_, ?_, ?_, ?_, ?_, ?_, trivial⟩
    · exact flow_step (fun us w hC hd => wants_free rfl) (fun us w hC hd => ⟨_, w, move_val rfl ((fill_old (by rfl)).trans h4), grown_refl _ _, rfl⟩)
    · exact flow_step (fun us w hC hd => wants_free rfl) (fun us w hC hd => ⟨_, w, eqlnil_val rfl ((fill_tmp (by rfl) (by rw [hsz]; decide)).trans (hd 0 (by decide))) (nilEq _), grown_refl _ _, rfl⟩)
    · exact flow_step (fun us w hC hd => wants_free rfl) (fun us w hC hd => ⟨_, w, move_val rfl ((fill_tmp (by rfl) (by rw [hsz]; decide)).trans (hd 1 (by decide))), grown_refl _ _, rfl⟩)
    · exact flow_step (fun us w hC hd => wants_on (d := 35) (b := true) rfl rfl (by rfl) (by rw [hsz]; decide) (hd 2 (by decide))) (fun us w hC hd => ⟨_, w, move_val rfl ((fill_old (by rfl)).trans h3), grown_refl _ _, rfl⟩)
    · exact flow_step (fun us w hC hd => wants_on (d := 35) (b := true) rfl rfl (by rfl) (by rw [hsz]; decide) (hd 2 (by decide))) (fun us w hC hd => ⟨_, w, conv_val rfl ((fill_tmp (by rfl) (by rw [hsz]; decide)).trans (hd 3 (by decide))) (hSa w hC), grown_refl _ _, rfl⟩)
    · exact flow_step (fun us w hC hd => wants_on (d := 35) (b := true) rfl rfl (by rfl) (by rw [hsz]; decide) (hd 2 (by decide))) (fun us w hC hd => ⟨_, w, move_val rfl ((fill_old (by rfl)).trans h0), grown_refl _ _, rfl⟩)
    · refine flow_call 18 (fun us => #[us 38]) (fun us w hC hd => wants_on (d := 35) (b := true) rfl rfl (by rfl) (by rw [hsz]; decide) (hd 2 (by decide))) (fun us w => by rw [call_enter rfl (fun _ _ => by simp [go_sem]), List.map_toArray, List.map_cons, List.map_nil, fill_tmp (by rfl) (by rw [hsz]; decide)]) (fun us w hC' hd => ?_)
      rw [show us 38 = .int .i64 m from hd 5 (by decide)]
      exact hF w hC'
    · exact flow_step (fun us w hC hd => wants_on (d := 35) (b := true) rfl rfl (by rfl) (by rw [hsz]; decide) (hd 2 (by decide))) (fun us w hC hd => ⟨_, w, conv_val rfl (fill_tmp (by rfl) (by rw [hsz]; decide)) (hSu w _ (hd 6 (by decide))), grown_refl _ _, rfl⟩)
    · exact flow_step (fun us w hC hd => wants_on (d := 35) (b := true) rfl rfl (by rfl) (by rw [hsz]; decide) (hd 2 (by decide))) (fun us w hC hd => ⟨_, w, eqlstr_val rfl ((fill_tmp (by rfl) (by rw [hsz]; decide)).trans (hd 4 (by decide))) ((fill_tmp (by rfl) (by rw [hsz]; decide)).trans (hd 7 (by decide))), grown_refl _ _, rfl⟩)
    · exact flow_step (fun us w hC hd => wants_free rfl) (fun us w hC hd => ⟨_, w, pick_true rfl ((fill_tmp (by rfl) (by rw [hsz]; decide)).trans (hd 2 (by decide))) ((fill_tmp (by rfl) (by rw [hsz]; decide)).trans (hd 8 (by decide))), grown_refl _ _, rfl⟩)
    · exact flow_step (fun us w hC hd => wants_free rfl) (fun us w hC hd => ⟨_, w, move_val rfl ((fill_tmp (by rfl) (by rw [hsz]; decide)).trans (hd 9 (by decide))), grown_refl _ _, rfl⟩)
    · exact flow_step (fun us w hC hd => wants_on (d := 43) (b := true) rfl rfl (by rfl) (by rw [hsz]; decide) (hd 10 (by decide))) (fun us w hC hd => ⟨_, w, move_val rfl ((fill_old (by rfl)).trans h6), grown_refl _ _, rfl⟩)
    · exact flow_step (fun us w hC hd => wants_on (d := 43) (b := true) rfl rfl (by rfl) (by rw [hsz]; decide) (hd 10 (by decide))) (fun us w hC hd => ⟨_, w, eqlnil_val rfl ((fill_tmp (by rfl) (by rw [hsz]; decide)).trans (hd 11 (by decide))) (nilEq _), grown_refl _ _, rfl⟩)
    · exact flow_step (fun us w hC hd => wants_free rfl) (fun us w hC hd => ⟨_, w, pick_true rfl ((fill_tmp (by rfl) (by rw [hsz]; decide)).trans (hd 10 (by decide))) ((fill_tmp (by rfl) (by rw [hsz]; decide)).trans (hd 12 (by decide))), grown_refl _ _, rfl⟩)
    · exact flow_step (fun us w hC hd => wants_free rfl) (fun us w hC hd => ⟨_, w, move_val rfl ((fill_tmp (by rfl) (by rw [hsz]; decide)).trans (hd 13 (by decide))), grown_refl _ _, rfl⟩)
    · exact flow_step (fun us w hC hd => wants_on (d := 47) (b := true) rfl rfl (by rfl) (by rw [hsz]; decide) (hd 14 (by decide))) (fun us w hC hd => ⟨_, w, move_val rfl ((fill_old (by rfl)).trans h5), grown_refl _ _, rfl⟩)
    · exact flow_step (fun us w hC hd => wants_on (d := 47) (b := true) rfl rfl (by rfl) (by rw [hsz]; decide) (hd 14 (by decide))) (fun us w hC hd => ⟨_, w, move_val rfl ((fill_old (by rfl)).trans h0), grown_refl _ _, rfl⟩)
    · exact flow_step (fun us w hC hd => wants_on (d := 47) (b := true) rfl rfl (by rfl) (by rw [hsz]; decide) (hd 14 (by decide))) (fun us w hC hd => ⟨_, w, (eqlint_val rfl ((fill_tmp (by rfl) (by rw [hsz]; decide)).trans (hd 15 (by decide))) ((fill_tmp (by rfl) (by rw [hsz]; decide)).trans (hd 16 (by decide)))).trans (by simp), grown_refl _ _, rfl⟩)
    · exact flow_step (fun us w hC hd => wants_free rfl) (fun us w hC hd => ⟨_, w, pick_true rfl ((fill_tmp (by rfl) (by rw [hsz]; decide)).trans (hd 14 (by decide))) ((fill_tmp (by rfl) (by rw [hsz]; decide)).trans (hd 17 (by decide))), grown_refl _ _, rfl⟩)
  · intro us w' hC' hd
    exact wpList_last rfl (assign_val rfl ((fill_tmp (by rfl) (by rw [hsz]; decide)).trans (hd 18 (by decide)))) (hQ us w' hC')
noncomputable def tm_regionC : Code := regionIn Tryd.f5.body 10
set_option linter.unusedVariables false
set_option maxRecDepth 100000 in
set_option maxHeartbeats 1000000 in
theorem tm_region (a : Act) (m : Int) (a3 : Option Addr) (n3 c3 : Nat) (S : ByteArray) (B : List Nat) (W w : World) (Q : Exit → Act → World → Prop) (hsz : a.tmps.size = 50)
    (h7 : a.eval (.tmp 7) = .int .i64 0)
    (h6 : a.eval (.tmp 6) = .int .i64 m)
    (h0 : a.eval (.tmp 0) = .slice a3 n3 c3)
    (hF : ∀ w, W.grownBy w none → Calls Tryd.prog 18 #[.int .i64 m] w fun e w' => ∃ v, e = .returned v ∧ w.grownBy w' none ∧ isB B v w')
    (hSa : ∀ w, W.grownBy w none → (convert 24 9 (.slice a3 n3 c3)).run Tryd.prog w = .ok (.string S) w)
    (hSu : ∀ w x, Bytes w x B → (convert 24 9 x).run Tryd.prog w = .ok (.string S) w)
    (hw : W.grownBy { w with drawn := w.drawn + 1 } none)
    (hQ : ∀ us w', W.grownBy w' none → Q .normal ((fill a [40, 41, 42, 43, 44, 45, 46, 47, 48, 49] us).put (some 2) (.bool true)) w') : tm_regionC.wp Tryd.prog Q a w := by
  have hst : StaysAll [isV (.int .i64 0), isV (.bool false), isV (.bool false), isV (.int .i64 m), isB B, isV (.string S), isV (.slice a3 n3 c3), isV (.string S), isV (.bool true), isV (.bool true)] := ⟨stays_V _, stays_V _, stays_V _, stays_V _, stays_B _, stays_V _, stays_V _, stays_V _, stays_V _, stays_V _, trivial⟩
  conv => arg 2; whnf
  refine wp_region_flow 10 [40, 41, 42, 43, 44, 45, 46, 47, 48, 49] (fun w' => W.grownBy w' none) (fun w w' => w.grownBy w' none) (flF [isV (.int .i64 0), isV (.bool false), isV (.bool false), isV (.int .i64 m), isB B, isV (.string S), isV (.slice a3 n3 c3), isV (.string S), isV (.bool true), isV (.bool true)]) (by kernel_rfl) (by kernel_rfl) (fun _ _ h k => grown_trans k h) (fun j x w w' hg h => flF_stays hst j x w w' hg h) hw ?_ ?_
  · refine ⟨?_, ?_, ?_, ?_, ?_, ?_, ?_, ?_, ?_, ?_, trivial⟩
    · exact flow_step (fun us w hC hd => wants_free rfl) (fun us w hC hd => ⟨_, w, move_val rfl ((fill_old (by rfl)).trans h7), grown_refl _ _, rfl⟩)
    · exact flow_step (fun us w hC hd => wants_free rfl) (fun us w hC hd => ⟨_, w, neqint_val rfl ((fill_tmp (by rfl) (by rw [hsz]; decide)).trans (hd 0 (by decide))) rfl, grown_refl _ _, rfl⟩)
    · exact flow_step (fun us w hC hd => wants_free rfl) (fun us w hC hd => ⟨_, w, move_val rfl ((fill_tmp (by rfl) (by rw [hsz]; decide)).trans (hd 1 (by decide))), grown_refl _ _, rfl⟩)
    · exact flow_step (fun us w hC hd => wants_on (d := 42) (b := false) rfl rfl (by rfl) (by rw [hsz]; decide) (hd 2 (by decide))) (fun us w hC hd => ⟨_, w, move_val rfl ((fill_old (by rfl)).trans h6), grown_refl _ _, rfl⟩)
    · refine flow_call 18 (fun us => #[us 43]) (fun us w hC hd => wants_on (d := 42) (b := false) rfl rfl (by rfl) (by rw [hsz]; decide) (hd 2 (by decide))) (fun us w => by rw [call_enter rfl (fun _ _ => by simp [go_sem]), List.map_toArray, List.map_cons, List.map_nil, fill_tmp (by rfl) (by rw [hsz]; decide)]) (fun us w hC' hd => ?_)
      rw [show us 43 = .int .i64 m from hd 3 (by decide)]
      exact hF w hC'
    · exact flow_step (fun us w hC hd => wants_on (d := 42) (b := false) rfl rfl (by rfl) (by rw [hsz]; decide) (hd 2 (by decide))) (fun us w hC hd => ⟨_, w, conv_val rfl (fill_tmp (by rfl) (by rw [hsz]; decide)) (hSu w _ (hd 4 (by decide))), grown_refl _ _, rfl⟩)
    · exact flow_step (fun us w hC hd => wants_on (d := 42) (b := false) rfl rfl (by rfl) (by rw [hsz]; decide) (hd 2 (by decide))) (fun us w hC hd => ⟨_, w, move_val rfl ((fill_old (by rfl)).trans h0), grown_refl _ _, rfl⟩)
    · exact flow_step (fun us w hC hd => wants_on (d := 42) (b := false) rfl rfl (by rfl) (by rw [hsz]; decide) (hd 2 (by decide))) (fun us w hC hd => ⟨_, w, conv_val rfl ((fill_tmp (by rfl) (by rw [hsz]; decide)).trans (hd 6 (by decide))) (hSa w hC), grown_refl _ _, rfl⟩)
    · exact flow_step (fun us w hC hd => wants_on (d := 42) (b := false) rfl rfl (by rfl) (by rw [hsz]; decide) (hd 2 (by decide))) (fun us w hC hd => ⟨_, w, eqlstr_val rfl ((fill_tmp (by rfl) (by rw [hsz]; decide)).trans (hd 5 (by decide))) ((fill_tmp (by rfl) (by rw [hsz]; decide)).trans (hd 7 (by decide))), grown_refl _ _, rfl⟩)
    · exact flow_step (fun us w hC hd => wants_free rfl) (fun us w hC hd => ⟨_, w, pick_false rfl ((fill_tmp (by rfl) (by rw [hsz]; decide)).trans (hd 2 (by decide))) ((fill_tmp (by rfl) (by rw [hsz]; decide)).trans (hd 8 (by decide))), grown_refl _ _, rfl⟩)
  · intro us w' hC' hd
    exact wpList_last rfl (assign_val rfl ((fill_tmp (by rfl) (by rw [hsz]; decide)).trans (hd 9 (by decide)))) (hQ us w' hC')
noncomputable def ts_regionC : Code := regionIn Tryd.f6.body 26
set_option linter.unusedVariables false
set_option maxRecDepth 100000 in
set_option maxHeartbeats 1000000 in
theorem ts_region (a : Act) (v14 v12 : Value) (S : ByteArray) (B : List Nat) (W w : World) (Q : Exit → Act → World → Prop) (hsz : a.tmps.size = 97)
    (h14 : a.eval (.tmp 14) = v14)
    (h12 : a.eval (.tmp 12) = v12)
    (hF : ∀ w, W.grownBy w none → Calls Tryd.prog 23 #[v14] w fun e w' => ∃ v, e = .returned v ∧ w.grownBy w' none ∧ isB B v w')
    (hSa : ∀ w, W.grownBy w none → (convert 24 9 v12).run Tryd.prog w = .ok (.string S) w)
    (hSu : ∀ w x, Bytes w x B → (convert 24 9 x).run Tryd.prog w = .ok (.string S) w)
    (hw : W.grownBy { w with drawn := w.drawn + 1 } none)
    (hQ : ∀ us w', W.grownBy w' none → Q .normal ((fill a [91, 92, 93, 94, 95, 96] us).put (some 4) (.bool true)) w') : ts_regionC.wp Tryd.prog Q a w := by
  have hst : StaysAll [isV (v14), isB B, isV (.string S), isV (v12), isV (.string S), isV (.bool true)] := ⟨stays_V _, stays_B _, stays_V _, stays_V _, stays_V _, stays_V _, trivial⟩
  conv => arg 2; whnf
  refine wp_region_flow 6 [91, 92, 93, 94, 95, 96] (fun w' => W.grownBy w' none) (fun w w' => w.grownBy w' none) (flF [isV (v14), isB B, isV (.string S), isV (v12), isV (.string S), isV (.bool true)]) (by kernel_rfl) (by kernel_rfl) (fun _ _ h k => grown_trans k h) (fun j x w w' hg h => flF_stays hst j x w w' hg h) hw ?_ ?_
  · refine ⟨?_, ?_, ?_, ?_, ?_, ?_, trivial⟩
    · exact flow_step (fun us w hC hd => wants_free rfl) (fun us w hC hd => ⟨_, w, move_val rfl ((fill_old (by rfl)).trans h14), grown_refl _ _, rfl⟩)
    · refine flow_call 23 (fun us => #[us 91]) (fun us w hC hd => wants_free rfl) (fun us w => by rw [call_enter rfl (fun _ _ => by simp [go_sem]), List.map_toArray, List.map_cons, List.map_nil, fill_tmp (by rfl) (by rw [hsz]; decide)]) (fun us w hC' hd => ?_)
      rw [show us 91 = v14 from hd 0 (by decide)]
      exact hF w hC'
    · exact flow_step (fun us w hC hd => wants_free rfl) (fun us w hC hd => ⟨_, w, conv_val rfl (fill_tmp (by rfl) (by rw [hsz]; decide)) (hSu w _ (hd 1 (by decide))), grown_refl _ _, rfl⟩)
    · exact flow_step (fun us w hC hd => wants_free rfl) (fun us w hC hd => ⟨_, w, move_val rfl ((fill_old (by rfl)).trans h12), grown_refl _ _, rfl⟩)
    · exact flow_step (fun us w hC hd => wants_free rfl) (fun us w hC hd => ⟨_, w, conv_val rfl ((fill_tmp (by rfl) (by rw [hsz]; decide)).trans (hd 3 (by decide))) (hSa w hC), grown_refl _ _, rfl⟩)
    · exact flow_step (fun us w hC hd => wants_free rfl) (fun us w hC hd => ⟨_, w, eqlstr_val rfl ((fill_tmp (by rfl) (by rw [hsz]; decide)).trans (hd 2 (by decide))) ((fill_tmp (by rfl) (by rw [hsz]; decide)).trans (hd 4 (by decide))), grown_refl _ _, rfl⟩)
  · intro us w' hC' hd
    exact wpList_last rfl (assign_val rfl ((fill_tmp (by rfl) (by rw [hsz]; decide)).trans (hd 5 (by decide)))) (hQ us w' hC')
end Go.Proofs.YtbneggdfbkebcaaDoor
