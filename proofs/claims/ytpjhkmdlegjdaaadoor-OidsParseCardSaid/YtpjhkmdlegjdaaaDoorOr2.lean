/- The region of OidsParse that draws its order. -/
import Derived.Test.YtpjhkmdlegjdaaaDoorFl5
import Derived.Test.YtpjhkmdlegjdaaaDoorWh2
namespace Go.Proofs.YtpjhkmdlegjdaaaDoor
open Go.RowKit

noncomputable def olp_regionC : Code := regionIn Tryd.f3.body 13
set_option linter.unusedVariables false
set_option maxRecDepth 100000 in
set_option maxHeartbeats 1000000 in
theorem olp_region (a : Act) (v5 : Value) (a7 : Option Addr) (n7 c7 : Nat) (s S : ByteArray) (B : List Nat) (W w : World) (Q : Exit → Act → World → Prop) (hsz : a.tmps.size = 71)
    (h7 : a.eval (.tmp 7) = .slice a7 n7 c7)
    (h5 : a.eval (.tmp 5) = v5)
    (h4 : a.eval (.tmp 4) = .nilIface)
    (h9 : a.eval (.tmp 9) = .string s)
    (h0 : a.eval (.tmp 0) = .string s)
    (hP : ∀ w, W.grownBy w none → Calls Tryd.prog 13 #[v5] w fun e w' => ∃ v, e = .returned v ∧ w.grownBy w' none ∧ isB B v w')
    (hSa : ∀ w, W.grownBy w none → (convert 30 9 (.slice a7 n7 c7)).run Tryd.prog w = .ok (.string S) w)
    (hSu : ∀ w x, Bytes w x B → (convert 30 9 x).run Tryd.prog w = .ok (.string S) w)
    (hw : W.grownBy { w with drawn := w.drawn + 1 } none)
    (hQ : ∀ us w', W.grownBy w' none → Q .normal ((fill a [56, 57, 58, 59, 60, 61, 62, 63, 64, 65, 66, 67, 68, 69, 70] us).put (some 2) (.bool true)) w') : olp_regionC.wp Tryd.prog Q a w := by
  have hst : StaysAll [isV (.slice a7 n7 c7), isV (.string S), isV (v5), isB B, isV (.string S), isV (.bool true), isV (.bool true), isV (.nilIface), isV (.bool true), isV (.bool true), isV (.bool true), isV (.string s), isV (.string s), isV (.bool true), isV (.bool true)] := ⟨stays_V _, stays_V _, stays_V _, stays_B _, stays_V _, stays_V _, stays_V _, stays_V _, stays_V _, stays_V _, stays_V _, stays_V _, stays_V _, stays_V _, stays_V _, trivial⟩
  conv => arg 2; whnf
  refine wp_region_flow 15 [56, 57, 58, 59, 60, 61, 62, 63, 64, 65, 66, 67, 68, 69, 70] (fun w' => W.grownBy w' none) (fun w w' => w.grownBy w' none) (flF [isV (.slice a7 n7 c7), isV (.string S), isV (v5), isB B, isV (.string S), isV (.bool true), isV (.bool true), isV (.nilIface), isV (.bool true), isV (.bool true), isV (.bool true), isV (.string s), isV (.string s), isV (.bool true), isV (.bool true)]) (by kernel_rfl) (by kernel_rfl) (fun _ _ h k => grown_trans k h) (fun j x w w' hg h => flF_stays hst j x w w' hg h) hw ?_ ?_
  · refine ⟨?_, ?_, ?_, ?_, ?_, ?_, ?_, ?_, ?_, ?_, ?_, ?_, ?_, ?_, ?_, trivial⟩
    · exact flow_step (fun us w hC hd => wants_free rfl) (fun us w hC hd => ⟨_, w, move_val rfl ((fill_old (by rfl)).trans h7), grown_refl _ _, rfl⟩)
    · exact flow_step (fun us w hC hd => wants_free rfl) (fun us w hC hd => ⟨_, w, conv_val rfl ((fill_tmp (by rfl) (by rw [hsz]; decide)).trans (hd 0 (by decide))) (hSa w hC), grown_refl _ _, rfl⟩)
    · exact flow_step (fun us w hC hd => wants_free rfl) (fun us w hC hd => ⟨_, w, move_val rfl ((fill_old (by rfl)).trans h5), grown_refl _ _, rfl⟩)
    · refine flow_call 13 (fun us => #[us 58]) (fun us w hC hd => wants_free rfl) (fun us w => by rw [call_enter rfl (fun _ _ => by simp [go_sem]), List.map_toArray, List.map_cons, List.map_nil, fill_tmp (by rfl) (by rw [hsz]; decide)]) (fun us w hC' hd => ?_)
      rw [show us 58 = v5 from hd 2 (by decide)]
      exact hP w hC'
    · exact flow_step (fun us w hC hd => wants_free rfl) (fun us w hC hd => ⟨_, w, conv_val rfl (fill_tmp (by rfl) (by rw [hsz]; decide)) (hSu w _ (hd 3 (by decide))), grown_refl _ _, rfl⟩)
    · exact flow_step (fun us w hC hd => wants_free rfl) (fun us w hC hd => ⟨_, w, eqlstr_val rfl ((fill_tmp (by rfl) (by rw [hsz]; decide)).trans (hd 1 (by decide))) ((fill_tmp (by rfl) (by rw [hsz]; decide)).trans (hd 4 (by decide))), grown_refl _ _, rfl⟩)
    · exact flow_step (fun us w hC hd => wants_free rfl) (fun us w hC hd => ⟨_, w, move_val rfl ((fill_tmp (by rfl) (by rw [hsz]; decide)).trans (hd 5 (by decide))), grown_refl _ _, rfl⟩)
    · exact flow_step (fun us w hC hd => wants_on (d := 62) (b := true) rfl rfl (by rfl) (by rw [hsz]; decide) (hd 6 (by decide))) (fun us w hC hd => ⟨_, w, move_val rfl ((fill_old (by rfl)).trans h4), grown_refl _ _, rfl⟩)
    · exact flow_step (fun us w hC hd => wants_on (d := 62) (b := true) rfl rfl (by rfl) (by rw [hsz]; decide) (hd 6 (by decide))) (fun us w hC hd => ⟨_, w, eqlnil_val rfl ((fill_tmp (by rfl) (by rw [hsz]; decide)).trans (hd 7 (by decide))) (nilEq _), grown_refl _ _, rfl⟩)
    · exact flow_step (fun us w hC hd => wants_free rfl) (fun us w hC hd => ⟨_, w, pick_true rfl ((fill_tmp (by rfl) (by rw [hsz]; decide)).trans (hd 6 (by decide))) ((fill_tmp (by rfl) (by rw [hsz]; decide)).trans (hd 8 (by decide))), grown_refl _ _, rfl⟩)
    · exact flow_step (fun us w hC hd => wants_free rfl) (fun us w hC hd => ⟨_, w, move_val rfl ((fill_tmp (by rfl) (by rw [hsz]; decide)).trans (hd 9 (by decide))), grown_refl _ _, rfl⟩)
    · exact flow_step (fun us w hC hd => wants_on (d := 66) (b := true) rfl rfl (by rfl) (by rw [hsz]; decide) (hd 10 (by decide))) (fun us w hC hd => ⟨_, w, move_val rfl ((fill_old (by rfl)).trans h9), grown_refl _ _, rfl⟩)
    · exact flow_step (fun us w hC hd => wants_on (d := 66) (b := true) rfl rfl (by rfl) (by rw [hsz]; decide) (hd 10 (by decide))) (fun us w hC hd => ⟨_, w, move_val rfl ((fill_old (by rfl)).trans h0), grown_refl _ _, rfl⟩)
    · exact flow_step (fun us w hC hd => wants_on (d := 66) (b := true) rfl rfl (by rfl) (by rw [hsz]; decide) (hd 10 (by decide))) (fun us w hC hd => ⟨_, w, eqlstr_val rfl ((fill_tmp (by rfl) (by rw [hsz]; decide)).trans (hd 11 (by decide))) ((fill_tmp (by rfl) (by rw [hsz]; decide)).trans (hd 12 (by decide))), grown_refl _ _, rfl⟩)
    · exact flow_step (fun us w hC hd => wants_free rfl) (fun us w hC hd => ⟨_, w, pick_true rfl ((fill_tmp (by rfl) (by rw [hsz]; decide)).trans (hd 10 (by decide))) ((fill_tmp (by rfl) (by rw [hsz]; decide)).trans (hd 13 (by decide))), grown_refl _ _, rfl⟩)
  · intro us w' hC' hd
    exact wpList_last rfl (assign_val rfl ((fill_tmp (by rfl) (by rw [hsz]; decide)).trans (hd 14 (by decide)))) (hQ us w' hC')
end Go.Proofs.YtpjhkmdlegjdaaaDoor
