/- The region of WholeGet that draws its order: where there is a number, and where there is an error. -/
import Derived.Test.YtbbkhdgkpacjgaaDoorFl4
import Derived.Test.YtbbkhdgkpacjgaaDoorWp5
namespace Go.Proofs.YtbbkhdgkpacjgaaDoor
open Go.RowKit

noncomputable def wg_regionOkC : Code := regionIn Tryd.f4.body 8
set_option linter.unusedVariables false
set_option maxRecDepth 100000 in
set_option maxHeartbeats 1000000 in
theorem wg_regionOk (a : Act) (n : Int) (gB c : Nat) (va : Option Addr) (vc L : Nat) (S : ByteArray) (B : List Nat) (W w : World) (Q : Exit → Act → World → Prop) (hsz : a.tmps.size = 96)
    (h8 : a.eval (.tmp 8) = .int .i64 n)
    (h10 : a.eval (.tmp 10) = .int .i64 n)
    (h9 : a.eval (.tmp 9) = .nilIface)
    (h11 : a.eval (.tmp 11) = .int .i64 0)
    (h7 : a.eval (.tmp 7) = .slice (some ⟨gB, 0, none⟩) L c)
    (h0 : a.eval (.tmp 0) = .slice va L vc)
    (hNm : ∀ w, W.grownBy w none → Calls Tryd.prog 12 #[.nilIface] w fun e w' => ∃ v, e = .returned v ∧ w.grownBy w' none ∧ isV (.int .i64 0) v w')
    (hKp : ∀ w, W.grownBy w none → Calls Tryd.prog 15 #[.slice (some ⟨gB, 0, none⟩) L c, .slice va L vc] w fun e w' => ∃ v, e = .returned v ∧ w.grownBy w' none ∧ isV (.bool true) v w')
    (hP : ∀ w, W.grownBy w none → Calls Tryd.prog 8 #[.int .i64 n] w fun e w' => ∃ v, e = .returned v ∧ w.grownBy w' none ∧ isB B v w')
    (hSa : ∀ w, W.grownBy w none → (convert 23 9 (.slice va L vc)).run Tryd.prog w = .ok (.string S) w)
    (hSu : ∀ w x, Bytes w x B → (convert 23 9 x).run Tryd.prog w = .ok (.string S) w)
    (hw : W.grownBy { w with drawn := w.drawn + 1 } none)
    (hQ : ∀ us w', W.grownBy w' none → Q .normal ((fill a [30, 31, 32, 33, 34, 35, 36, 37, 38, 39, 40, 41, 42, 43, 44, 45, 46, 47, 48, 49, 50, 51, 52, 53, 54, 55] us).put (some 56) (.bool false)) w') : wg_regionOkC.wp Tryd.prog Q a w := by
  have hst : StaysAll [isV (.int .i64 n), isV (.int .i64 n), isV (.bool false), isV (.bool false), isV (.nilIface), isV (.int .i64 0), isV (.int .i64 0), isV (.bool false), isV (.bool false), isV (.bool false), isV (.slice (some ⟨gB, 0, none⟩) L c), isV (.slice va L vc), isV (.bool true), isV (.bool false), isV (.bool false), isV (.bool false), isV (.int .i64 0), isV (.bool true), isV (.bool true), isV (.int .i64 n), isB B, isV (.string S), isV (.slice va L vc), isV (.string S), isV (.bool false), isV (.bool false)] := ⟨stays_V _, stays_V _, stays_V _, stays_V _, stays_V _, stays_V _, stays_V _, stays_V _, stays_V _, stays_V _, stays_V _, stays_V _, stays_V _, stays_V _, stays_V _, stays_V _, stays_V _, stays_V _, stays_V _, stays_V _, stays_B _, stays_V _, stays_V _, stays_V _, stays_V _, stays_V _, trivial⟩
  conv => arg 2; whnf
  refine wp_region_flow 26 [30, 31, 32, 33, 34, 35, 36, 37, 38, 39, 40, 41, 42, 43, 44, 45, 46, 47, 48, 49, 50, 51, 52, 53, 54, 55] (fun w' => W.grownBy w' none) (fun w w' => w.grownBy w' none) (flF [isV (.int .i64 n), isV (.int .i64 n), isV (.bool false), isV (.bool false), isV (.nilIface), isV (.int .i64 0), isV (.int .i64 0), isV (.bool false), isV (.bool false), isV (.bool false), isV (.slice (some ⟨gB, 0, none⟩) L c), isV (.slice va L vc), isV (.bool true), isV (.bool false), isV (.bool false), isV (.bool false), isV (.int .i64 0), isV (.bool true), isV (.bool true), isV (.int .i64 n), isB B, isV (.string S), isV (.slice va L vc), isV (.string S), isV (.bool false), isV (.bool false)]) (by kernel_rfl) (by kernel_rfl) (fun _ _ h k => grown_trans k h) (fun j x w w' hg h => flF_stays hst j x w w' hg h) hw ?_ ?_
  · refine ⟨?_, ?_, ?_, ?_, ?_, ?_, ?_, ?_, ?_, ?_, ?_, ?_, ?_, ?_, ?_, ?_, ?_, ?_, ?_, ?_, ?_, ?_, ?_, ?_, ?_, ?_, trivial⟩
    · exact flow_step (fun us w hC hd => wants_free rfl) (fun us w hC hd => ⟨_, w, move_val rfl ((fill_old (by rfl)).trans h8), grown_refl _ _, rfl⟩)
    · exact flow_step (fun us w hC hd => wants_free rfl) (fun us w hC hd => ⟨_, w, move_val rfl ((fill_old (by rfl)).trans h10), grown_refl _ _, rfl⟩)
    · exact flow_step (fun us w hC hd => wants_free rfl) (fun us w hC hd => ⟨_, w, neqint_val rfl ((fill_tmp (by rfl) (by rw [hsz]; decide)).trans (hd 0 (by decide))) ((fill_tmp (by rfl) (by rw [hsz]; decide)).trans (hd 1 (by decide))), grown_refl _ _, rfl⟩)
    · exact flow_step (fun us w hC hd => wants_free rfl) (fun us w hC hd => ⟨_, w, move_val rfl ((fill_tmp (by rfl) (by rw [hsz]; decide)).trans (hd 2 (by decide))), grown_refl _ _, rfl⟩)
    · exact flow_step (fun us w hC hd => wants_on (d := 33) (b := false) rfl rfl (by rfl) (by rw [hsz]; decide) (hd 3 (by decide))) (fun us w hC hd => ⟨_, w, move_val rfl ((fill_old (by rfl)).trans h9), grown_refl _ _, rfl⟩)
    · refine flow_call 12 (fun us => #[us 34]) (fun us w hC hd => wants_on (d := 33) (b := false) rfl rfl (by rfl) (by rw [hsz]; decide) (hd 3 (by decide))) (fun us w => by rw [call_enter rfl (fun _ _ => by simp [go_sem]), List.map_toArray, List.map_cons, List.map_nil, fill_tmp (by rfl) (by rw [hsz]; decide)]) (fun us w hC' hd => ?_)
      rw [show us 34 = .nilIface from hd 4 (by decide)]
      exact hNm w hC'
    · exact flow_step (fun us w hC hd => wants_on (d := 33) (b := false) rfl rfl (by rfl) (by rw [hsz]; decide) (hd 3 (by decide))) (fun us w hC hd => ⟨_, w, move_val rfl ((fill_old (by rfl)).trans h11), grown_refl _ _, rfl⟩)
    · exact flow_step (fun us w hC hd => wants_on (d := 33) (b := false) rfl rfl (by rfl) (by rw [hsz]; decide) (hd 3 (by decide))) (fun us w hC hd => ⟨_, w, neqint_val rfl ((fill_tmp (by rfl) (by rw [hsz]; decide)).trans (hd 5 (by decide))) ((fill_tmp (by rfl) (by rw [hsz]; decide)).trans (hd 6 (by decide))), grown_refl _ _, rfl⟩)
    · exact flow_step (fun us w hC hd => wants_free rfl) (fun us w hC hd => ⟨_, w, pick_false rfl ((fill_tmp (by rfl) (by rw [hsz]; decide)).trans (hd 3 (by decide))) ((fill_tmp (by rfl) (by rw [hsz]; decide)).trans (hd 7 (by decide))), grown_refl _ _, rfl⟩)
    · exact flow_step (fun us w hC hd => wants_free rfl) (fun us w hC hd => ⟨_, w, move_val rfl ((fill_tmp (by rfl) (by rw [hsz]; decide)).trans (hd 8 (by decide))), grown_refl _ _, rfl⟩)
    · exact flow_step (fun us w hC hd => wants_on (d := 39) (b := false) rfl rfl (by rfl) (by rw [hsz]; decide) (hd 9 (by decide))) (fun us w hC hd => ⟨_, w, move_val rfl ((fill_old (by rfl)).trans h7), grown_refl _ _, rfl⟩)
    · exact flow_step (fun us w hC hd => wants_on (d := 39) (b := false) rfl rfl (by rfl) (by rw [hsz]; decide) (hd 9 (by decide))) (fun us w hC hd => ⟨_, w, move_val rfl ((fill_old (by rfl)).trans h0), grown_refl _ _, rfl⟩)
    · refine flow_call 15 (fun us => #[us 40, us 41]) (fun us w hC hd => wants_on (d := 39) (b := false) rfl rfl (by rfl) (by rw [hsz]; decide) (hd 9 (by decide))) (fun us w => by rw [call_enter rfl (fun _ _ => by simp [go_sem]), List.map_toArray, List.map_cons, List.map_cons, List.map_nil, fill_tmp (by rfl) (by rw [hsz]; decide), fill_tmp (by rfl) (by rw [hsz]; decide)]) (fun us w hC' hd => ?_)
      rw [show us 40 = .slice (some ⟨gB, 0, none⟩) L c from hd 10 (by decide)]
      rw [show us 41 = .slice va L vc from hd 11 (by decide)]
      exact hKp w hC'
    · exact flow_step (fun us w hC hd => wants_on (d := 39) (b := false) rfl rfl (by rfl) (by rw [hsz]; decide) (hd 9 (by decide))) (fun us w hC hd => ⟨_, w, not_val rfl ((fill_tmp (by rfl) (by rw [hsz]; decide)).trans (hd 12 (by decide))), grown_refl _ _, rfl⟩)
    · exact flow_step (fun us w hC hd => wants_free rfl) (fun us w hC hd => ⟨_, w, pick_false rfl ((fill_tmp (by rfl) (by rw [hsz]; decide)).trans (hd 9 (by decide))) ((fill_tmp (by rfl) (by rw [hsz]; decide)).trans (hd 13 (by decide))), grown_refl _ _, rfl⟩)
    · exact flow_step (fun us w hC hd => wants_free rfl) (fun us w hC hd => ⟨_, w, move_val rfl ((fill_tmp (by rfl) (by rw [hsz]; decide)).trans (hd 14 (by decide))), grown_refl _ _, rfl⟩)
    · exact flow_step (fun us w hC hd => wants_on (d := 45) (b := false) rfl rfl (by rfl) (by rw [hsz]; decide) (hd 15 (by decide))) (fun us w hC hd => ⟨_, w, move_val rfl ((fill_old (by rfl)).trans h11), grown_refl _ _, rfl⟩)
    · exact flow_step (fun us w hC hd => wants_on (d := 45) (b := false) rfl rfl (by rfl) (by rw [hsz]; decide) (hd 15 (by decide))) (fun us w hC hd => ⟨_, w, eqlint_val rfl ((fill_tmp (by rfl) (by rw [hsz]; decide)).trans (hd 16 (by decide))) rfl, grown_refl _ _, rfl⟩)
    · exact flow_step (fun us w hC hd => wants_on (d := 45) (b := false) rfl rfl (by rfl) (by rw [hsz]; decide) (hd 15 (by decide))) (fun us w hC hd => ⟨_, w, move_val rfl ((fill_tmp (by rfl) (by rw [hsz]; decide)).trans (hd 17 (by decide))), grown_refl _ _, rfl⟩)
    · exact flow_step (fun us w hC hd => wants_on (d := 48) (b := true) rfl rfl (by rfl) (by rw [hsz]; decide) (hd 18 (by decide))) (fun us w hC hd => ⟨_, w, move_val rfl ((fill_old (by rfl)).trans h8), grown_refl _ _, rfl⟩)
    · refine flow_call 8 (fun us => #[us 49]) (fun us w hC hd => wants_on (d := 48) (b := true) rfl rfl (by rfl) (by rw [hsz]; decide) (hd 18 (by decide))) (fun us w => by rw [call_enter rfl (fun _ _ => by simp [go_sem]), List.map_toArray, List.map_cons, List.map_nil, fill_tmp (by rfl) (by rw [hsz]; decide)]) (fun us w hC' hd => ?_)
      rw [show us 49 = .int .i64 n from hd 19 (by decide)]
      exact hP w hC'
    · exact flow_step (fun us w hC hd => wants_on (d := 48) (b := true) rfl rfl (by rfl) (by rw [hsz]; decide) (hd 18 (by decide))) (fun us w hC hd => ⟨_, w, conv_val rfl (fill_tmp (by rfl) (by rw [hsz]; decide)) (hSu w _ (hd 20 (by decide))), grown_refl _ _, rfl⟩)
    · exact flow_step (fun us w hC hd => wants_on (d := 48) (b := true) rfl rfl (by rfl) (by rw [hsz]; decide) (hd 18 (by decide))) (fun us w hC hd => ⟨_, w, move_val rfl ((fill_old (by rfl)).trans h0), grown_refl _ _, rfl⟩)
    · exact flow_step (fun us w hC hd => wants_on (d := 48) (b := true) rfl rfl (by rfl) (by rw [hsz]; decide) (hd 18 (by decide))) (fun us w hC hd => ⟨_, w, conv_val rfl ((fill_tmp (by rfl) (by rw [hsz]; decide)).trans (hd 22 (by decide))) (hSa w hC), grown_refl _ _, rfl⟩)
    · exact flow_step (fun us w hC hd => wants_on (d := 48) (b := true) rfl rfl (by rfl) (by rw [hsz]; decide) (hd 18 (by decide))) (fun us w hC hd => ⟨_, w, neqstr_val rfl ((fill_tmp (by rfl) (by rw [hsz]; decide)).trans (hd 21 (by decide))) ((fill_tmp (by rfl) (by rw [hsz]; decide)).trans (hd 23 (by decide))), grown_refl _ _, rfl⟩)
    · exact flow_step (fun us w hC hd => wants_on (d := 45) (b := false) rfl rfl (by rfl) (by rw [hsz]; decide) (hd 15 (by decide))) (fun us w hC hd => ⟨_, w, pick_true rfl ((fill_tmp (by rfl) (by rw [hsz]; decide)).trans (hd 18 (by decide))) ((fill_tmp (by rfl) (by rw [hsz]; decide)).trans (hd 24 (by decide))), grown_refl _ _, rfl⟩)
  · intro us w' hC' hd
    exact wpList_last rfl (pick_false rfl ((fill_tmp (by rfl) (by rw [hsz]; decide)).trans (hd 15 (by decide))) ((fill_tmp (by rfl) (by rw [hsz]; decide)).trans (hd 25 (by decide)))) (hQ us w' hC')
noncomputable def wg_regionErrC : Code := regionIn Tryd.f4.body 8
set_option linter.unusedVariables false
set_option maxRecDepth 100000 in
set_option maxHeartbeats 1000000 in
theorem wg_regionErr (a : Act) (A : Nat → Addr) (k : Nat) (gB c : Nat) (va : Option Addr) (vc L : Nat) (W w : World) (Q : Exit → Act → World → Prop) (hsz : a.tmps.size = 96)
    (h8 : a.eval (.tmp 8) = .int .i64 0)
    (h10 : a.eval (.tmp 10) = .int .i64 0)
    (h9 : a.eval (.tmp 9) = errV A k)
    (h11 : a.eval (.tmp 11) = .int .i64 k)
    (h7 : a.eval (.tmp 7) = .slice (some ⟨gB, 0, none⟩) L c)
    (h0 : a.eval (.tmp 0) = .slice va L vc)
    (hNm : ∀ w, W.grownBy w none → Calls Tryd.prog 12 #[errV A k] w fun e w' => ∃ v, e = .returned v ∧ w.grownBy w' none ∧ isV (.int .i64 k) v w')
    (hKp : ∀ w, W.grownBy w none → Calls Tryd.prog 15 #[.slice (some ⟨gB, 0, none⟩) L c, .slice va L vc] w fun e w' => ∃ v, e = .returned v ∧ w.grownBy w' none ∧ isV (.bool true) v w')
    (hk0 : (((k : Nat) : Int) == 0) = false)
    (hw : W.grownBy { w with drawn := w.drawn + 1 } none)
    (hQ : ∀ us w', W.grownBy w' none → Q .normal ((fill a [30, 31, 32, 33, 34, 35, 36, 37, 38, 39, 40, 41, 42, 43, 44, 45, 46, 47, 48, 49, 50, 51, 52, 53, 54, 55] us).put (some 56) (.bool false)) w') : wg_regionErrC.wp Tryd.prog Q a w := by
  have hst : StaysAll [isV (.int .i64 0), isV (.int .i64 0), isV (.bool false), isV (.bool false), isV (errV A k), isV (.int .i64 k), isV (.int .i64 k), isV (.bool false), isV (.bool false), isV (.bool false), isV (.slice (some ⟨gB, 0, none⟩) L c), isV (.slice va L vc), isV (.bool true), isV (.bool false), isV (.bool false), isV (.bool false), isV (.int .i64 k), isV (.bool false), isV (.bool false), isAny, isAny, isAny, isAny, isAny, isAny, isV (.bool false)] := ⟨stays_V _, stays_V _, stays_V _, stays_V _, stays_V _, stays_V _, stays_V _, stays_V _, stays_V _, stays_V _, stays_V _, stays_V _, stays_V _, stays_V _, stays_V _, stays_V _, stays_V _, stays_V _, stays_V _, stays_any, stays_any, stays_any, stays_any, stays_any, stays_any, stays_V _, trivial⟩
  conv => arg 2; whnf
  refine wp_region_flow 26 [30, 31, 32, 33, 34, 35, 36, 37, 38, 39, 40, 41, 42, 43, 44, 45, 46, 47, 48, 49, 50, 51, 52, 53, 54, 55] (fun w' => W.grownBy w' none) (fun w w' => w.grownBy w' none) (flF [isV (.int .i64 0), isV (.int .i64 0), isV (.bool false), isV (.bool false), isV (errV A k), isV (.int .i64 k), isV (.int .i64 k), isV (.bool false), isV (.bool false), isV (.bool false), isV (.slice (some ⟨gB, 0, none⟩) L c), isV (.slice va L vc), isV (.bool true), isV (.bool false), isV (.bool false), isV (.bool false), isV (.int .i64 k), isV (.bool false), isV (.bool false), isAny, isAny, isAny, isAny, isAny, isAny, isV (.bool false)]) (by kernel_rfl) (by kernel_rfl) (fun _ _ h k => grown_trans k h) (fun j x w w' hg h => flF_stays hst j x w w' hg h) hw ?_ ?_
  · refine ⟨?_, ?_, ?_, ?_, ?_, ?_, ?_, ?_, ?_, ?_, ?_, ?_, ?_, ?_, ?_, ?_, ?_, ?_, ?_, ?_, ?_, ?_, ?_, ?_, ?_, ?_, trivial⟩
    · exact flow_step (fun us w hC hd => wants_free rfl) (fun us w hC hd => ⟨_, w, move_val rfl ((fill_old (by rfl)).trans h8), grown_refl _ _, rfl⟩)
    · exact flow_step (fun us w hC hd => wants_free rfl) (fun us w hC hd => ⟨_, w, move_val rfl ((fill_old (by rfl)).trans h10), grown_refl _ _, rfl⟩)
    · exact flow_step (fun us w hC hd => wants_free rfl) (fun us w hC hd => ⟨_, w, neqint_val rfl ((fill_tmp (by rfl) (by rw [hsz]; decide)).trans (hd 0 (by decide))) ((fill_tmp (by rfl) (by rw [hsz]; decide)).trans (hd 1 (by decide))), grown_refl _ _, rfl⟩)
    · exact flow_step (fun us w hC hd => wants_free rfl) (fun us w hC hd => ⟨_, w, move_val rfl ((fill_tmp (by rfl) (by rw [hsz]; decide)).trans (hd 2 (by decide))), grown_refl _ _, rfl⟩)
    · exact flow_step (fun us w hC hd => wants_on (d := 33) (b := false) rfl rfl (by rfl) (by rw [hsz]; decide) (hd 3 (by decide))) (fun us w hC hd => ⟨_, w, move_val rfl ((fill_old (by rfl)).trans h9), grown_refl _ _, rfl⟩)
    · refine flow_call 12 (fun us => #[us 34]) (fun us w hC hd => wants_on (d := 33) (b := false) rfl rfl (by rfl) (by rw [hsz]; decide) (hd 3 (by decide))) (fun us w => by rw [call_enter rfl (fun _ _ => by simp [go_sem]), List.map_toArray, List.map_cons, List.map_nil, fill_tmp (by rfl) (by rw [hsz]; decide)]) (fun us w hC' hd => ?_)
      rw [show us 34 = errV A k from hd 4 (by decide)]
      exact hNm w hC'
    · exact flow_step (fun us w hC hd => wants_on (d := 33) (b := false) rfl rfl (by rfl) (by rw [hsz]; decide) (hd 3 (by decide))) (fun us w hC hd => ⟨_, w, move_val rfl ((fill_old (by rfl)).trans h11), grown_refl _ _, rfl⟩)
    · exact flow_step (fun us w hC hd => wants_on (d := 33) (b := false) rfl rfl (by rfl) (by rw [hsz]; decide) (hd 3 (by decide))) (fun us w hC hd => ⟨_, w, neqint_val rfl ((fill_tmp (by rfl) (by rw [hsz]; decide)).trans (hd 5 (by decide))) ((fill_tmp (by rfl) (by rw [hsz]; decide)).trans (hd 6 (by decide))), grown_refl _ _, rfl⟩)
    · exact flow_step (fun us w hC hd => wants_free rfl) (fun us w hC hd => ⟨_, w, pick_false rfl ((fill_tmp (by rfl) (by rw [hsz]; decide)).trans (hd 3 (by decide))) ((fill_tmp (by rfl) (by rw [hsz]; decide)).trans (hd 7 (by decide))), grown_refl _ _, rfl⟩)
    · exact flow_step (fun us w hC hd => wants_free rfl) (fun us w hC hd => ⟨_, w, move_val rfl ((fill_tmp (by rfl) (by rw [hsz]; decide)).trans (hd 8 (by decide))), grown_refl _ _, rfl⟩)
    · exact flow_step (fun us w hC hd => wants_on (d := 39) (b := false) rfl rfl (by rfl) (by rw [hsz]; decide) (hd 9 (by decide))) (fun us w hC hd => ⟨_, w, move_val rfl ((fill_old (by rfl)).trans h7), grown_refl _ _, rfl⟩)
    · exact flow_step (fun us w hC hd => wants_on (d := 39) (b := false) rfl rfl (by rfl) (by rw [hsz]; decide) (hd 9 (by decide))) (fun us w hC hd => ⟨_, w, move_val rfl ((fill_old (by rfl)).trans h0), grown_refl _ _, rfl⟩)
    · refine flow_call 15 (fun us => #[us 40, us 41]) (fun us w hC hd => wants_on (d := 39) (b := false) rfl rfl (by rfl) (by rw [hsz]; decide) (hd 9 (by decide))) (fun us w => by rw [call_enter rfl (fun _ _ => by simp [go_sem]), List.map_toArray, List.map_cons, List.map_cons, List.map_nil, fill_tmp (by rfl) (by rw [hsz]; decide), fill_tmp (by rfl) (by rw [hsz]; decide)]) (fun us w hC' hd => ?_)
      rw [show us 40 = .slice (some ⟨gB, 0, none⟩) L c from hd 10 (by decide)]
      rw [show us 41 = .slice va L vc from hd 11 (by decide)]
      exact hKp w hC'
    · exact flow_step (fun us w hC hd => wants_on (d := 39) (b := false) rfl rfl (by rfl) (by rw [hsz]; decide) (hd 9 (by decide))) (fun us w hC hd => ⟨_, w, not_val rfl ((fill_tmp (by rfl) (by rw [hsz]; decide)).trans (hd 12 (by decide))), grown_refl _ _, rfl⟩)
    · exact flow_step (fun us w hC hd => wants_free rfl) (fun us w hC hd => ⟨_, w, pick_false rfl ((fill_tmp (by rfl) (by rw [hsz]; decide)).trans (hd 9 (by decide))) ((fill_tmp (by rfl) (by rw [hsz]; decide)).trans (hd 13 (by decide))), grown_refl _ _, rfl⟩)
    · exact flow_step (fun us w hC hd => wants_free rfl) (fun us w hC hd => ⟨_, w, move_val rfl ((fill_tmp (by rfl) (by rw [hsz]; decide)).trans (hd 14 (by decide))), grown_refl _ _, rfl⟩)
    · exact flow_step (fun us w hC hd => wants_on (d := 45) (b := false) rfl rfl (by rfl) (by rw [hsz]; decide) (hd 15 (by decide))) (fun us w hC hd => ⟨_, w, move_val rfl ((fill_old (by rfl)).trans h11), grown_refl _ _, rfl⟩)
    · exact flow_step (fun us w hC hd => wants_on (d := 45) (b := false) rfl rfl (by rfl) (by rw [hsz]; decide) (hd 15 (by decide))) (fun us w hC hd => ⟨_, w, (eqlint_val rfl ((fill_tmp (by rfl) (by rw [hsz]; decide)).trans (hd 16 (by decide))) rfl).trans (by rw [hk0]), grown_refl _ _, rfl⟩)
    · exact flow_step (fun us w hC hd => wants_on (d := 45) (b := false) rfl rfl (by rfl) (by rw [hsz]; decide) (hd 15 (by decide))) (fun us w hC hd => ⟨_, w, move_val rfl ((fill_tmp (by rfl) (by rw [hsz]; decide)).trans (hd 17 (by decide))), grown_refl _ _, rfl⟩)
    · exact flow_skip (fun us w hC hd => wants_not (d := 48) (b := true) rfl rfl (by rfl) (by rw [hsz]; decide) (hd 18 (by decide))) (fun _ => grown_refl _ _) (fun _ _ => trivial)
    · exact flow_skip (fun us w hC hd => wants_not (d := 48) (b := true) rfl rfl (by rfl) (by rw [hsz]; decide) (hd 18 (by decide))) (fun _ => grown_refl _ _) (fun _ _ => trivial)
    · exact flow_skip (fun us w hC hd => wants_not (d := 48) (b := true) rfl rfl (by rfl) (by rw [hsz]; decide) (hd 18 (by decide))) (fun _ => grown_refl _ _) (fun _ _ => trivial)
    · exact flow_skip (fun us w hC hd => wants_not (d := 48) (b := true) rfl rfl (by rfl) (by rw [hsz]; decide) (hd 18 (by decide))) (fun _ => grown_refl _ _) (fun _ _ => trivial)
    · exact flow_skip (fun us w hC hd => wants_not (d := 48) (b := true) rfl rfl (by rfl) (by rw [hsz]; decide) (hd 18 (by decide))) (fun _ => grown_refl _ _) (fun _ _ => trivial)
    · exact flow_skip (fun us w hC hd => wants_not (d := 48) (b := true) rfl rfl (by rfl) (by rw [hsz]; decide) (hd 18 (by decide))) (fun _ => grown_refl _ _) (fun _ _ => trivial)
    · exact flow_step (fun us w hC hd => wants_on (d := 45) (b := false) rfl rfl (by rfl) (by rw [hsz]; decide) (hd 15 (by decide))) (fun us w hC hd => ⟨_, w, pick_false rfl ((fill_tmp (by rfl) (by rw [hsz]; decide)).trans (hd 18 (by decide))) rfl, grown_refl _ _, rfl⟩)
  · intro us w' hC' hd
    exact wpList_last rfl (pick_false rfl ((fill_tmp (by rfl) (by rw [hsz]; decide)).trans (hd 15 (by decide))) ((fill_tmp (by rfl) (by rw [hsz]; decide)).trans (hd 25 (by decide)))) (hQ us w' hC')
end Go.Proofs.YtbbkhdgkpacjgaaDoor
