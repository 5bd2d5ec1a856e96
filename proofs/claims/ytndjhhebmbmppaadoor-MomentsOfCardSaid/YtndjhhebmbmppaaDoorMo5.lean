/- The region of MomentsOf that draws its order. -/
import Derived.Test.YtndjhhebmbmppaaDoorFl5
import Derived.Test.YtndjhhebmbmppaaDoorMo2
namespace Go.Proofs.YtndjhhebmbmppaaDoor
open Go.RowKit

noncomputable def mo_regionC : Code := regionIn Tryd.f3.body 10
set_option linter.unusedVariables false
set_option maxRecDepth 100000 in
set_option maxHeartbeats 1000000 in
theorem mo_region (a : Act) (b3 b7 n5 c5 : Nat) (a5 : Option Addr) (t q1 q2 q : Int) (DC : Array Value) (S : ByteArray) (B : List Nat) (W w : World) (Q : Exit → Act → World → Prop) (hsz : a.tmps.size = 111)
    (h4 : a.eval (.tmp 4) = .nilIface)
    (h6 : a.eval (.tmp 6) = .nilIface)
    (h9 : a.eval (.tmp 9) = .nilIface)
    (h11 : a.eval (.tmp 11) = .nilIface)
    (h3 : a.eval (.tmp 3) = .pointer (some ⟨b3, 0, none⟩))
    (h7 : a.eval (.tmp 7) = .pointer (some ⟨b7, 0, none⟩))
    (h5 : a.eval (.tmp 5) = .slice a5 n5 c5)
    (h0 : a.eval (.tmp 0) = .int .i64 t)
    (h8 : a.eval (.tmp 8) = .int .i64 t)
    (h10 : a.eval (.tmp 10) = .int .i64 t)
    (hX : ∀ w, W.grownBy w none → Calls Tryd.prog 15 #[.agg DC] w fun e w' => ∃ v, e = .returned v ∧ w.grownBy w' none ∧ isB B v w')
    (hWd : ∀ w, W.grownBy w none → Calls Tryd.prog 11 #[.int .i64 t] w fun e w' => ∃ v, e = .returned v ∧ w.grownBy w' none ∧ isV (.int .i64 q) v w')
    (hSa : ∀ w, W.grownBy w none → (convert 29 9 (.slice a5 n5 c5)).run Tryd.prog w = .ok (.string S) w)
    (hSu : ∀ w x, Bytes w x B → (convert 29 9 x).run Tryd.prog w = .ok (.string S) w)
    (h3r : ∀ w, W.grownBy w none → w.heap[b3]? = some (.cells DC 24 (0, 0)))
    (h7r : ∀ w, W.grownBy w none → w.heap[b7]? = some (.cells DC 34 (0, 0)))
    (hI1 : (Tryd.prog.info? 24).map (·.size) = some DC.size)
    (hI2 : (Tryd.prog.info? 34).map (·.size) = some DC.size)
    (hEq : ∀ x y w, (do eqGuard .eql 34 x y (.agg DC) (.agg DC); binOp .eql 34 (.agg DC) (.agg DC) : Sem Value).run Tryd.prog w = .ok (.bool true) w)
    (hq1 : IntKind.i64.wrap (t.tdiv 86400) = q1)
    (hq2 : IntKind.i64.wrap (q1 + 4) = q2)
    (hq3 : q2.tmod 7 = q)
    (hw : W.grownBy { w with drawn := w.drawn + 1 } none)
    (hQ : ∀ us w', W.grownBy w' none → Q .normal ((fill a [65, 66, 67, 68, 69, 70, 71, 72, 73, 74, 75, 76, 77, 78, 79, 80, 81, 82, 83, 84, 85, 86, 87, 88, 89, 90, 91, 92, 93, 94, 95, 96, 97, 98, 99, 100, 101, 102, 103, 104, 105, 106, 107, 108, 109, 110] us).put (some 2) (.bool true)) w') : mo_regionC.wp Tryd.prog Q a w := by
  have hst : StaysAll [isV (.nilIface), isV (.bool true), isV (.bool true), isV (.nilIface), isV (.bool true), isV (.bool true), isV (.bool true), isV (.nilIface), isV (.bool true), isV (.bool true), isV (.bool true), isV (.nilIface), isV (.bool true), isV (.bool true), isV (.bool true), isV (.agg DC), isV (.agg DC), isV (.bool true), isV (.bool true), isV (.bool true), isV (.slice a5 n5 c5), isV (.string S), isV (.agg DC), isB B, isV (.string S), isV (.bool true), isV (.bool true), isV (.bool true), isV (.int .i64 t), isV (.int .i64 t), isV (.bool true), isV (.bool true), isV (.bool true), isV (.int .i64 t), isV (.int .i64 t), isV (.bool true), isV (.bool true), isV (.bool true), isV (.int .i64 t), isV (.int .i64 q), isV (.int .i64 t), isV (.int .i64 q1), isV (.int .i64 q2), isV (.int .i64 q), isV (.bool true), isV (.bool true)] := ⟨stays_V _, stays_V _, stays_V _, stays_V _, stays_V _, stays_V _, stays_V _, stays_V _, stays_V _, stays_V _, stays_V _, stays_V _, stays_V _, stays_V _, stays_V _, stays_V _, stays_V _, stays_V _, stays_V _, stays_V _, stays_V _, stays_V _, stays_V _, stays_B _, stays_V _, stays_V _, stays_V _, stays_V _, stays_V _, stays_V _, stays_V _, stays_V _, stays_V _, stays_V _, stays_V _, stays_V _, stays_V _, stays_V _, stays_V _, stays_V _, stays_V _, stays_V _, stays_V _, stays_V _, stays_V _, stays_V _, trivial⟩
  conv => arg 2; whnf
  refine wp_region_flow 46 [65, 66, 67, 68, 69, 70, 71, 72, 73, 74, 75, 76, 77, 78, 79, 80, 81, 82, 83, 84, 85, 86, 87, 88, 89, 90, 91, 92, 93, 94, 95, 96, 97, 98, 99, 100, 101, 102, 103, 104, 105, 106, 107, 108, 109, 110] (fun w' => W.grownBy w' none) (fun w w' => w.grownBy w' none) (flF [isV (.nilIface), isV (.bool true), isV (.bool true), isV (.nilIface), isV (.bool true), isV (.bool true), isV (.bool true), isV (.nilIface), isV (.bool true), isV (.bool true), isV (.bool true), isV (.nilIface), isV (.bool true), isV (.bool true), isV (.bool true), isV (.agg DC), isV (.agg DC), isV (.bool true), isV (.bool true), isV (.bool true), isV (.slice a5 n5 c5), isV (.string S), isV (.agg DC), isB B, isV (.string S), isV (.bool true), isV (.bool true), isV (.bool true), isV (.int .i64 t), isV (.int .i64 t), isV (.bool true), isV (.bool true), isV (.bool true), isV (.int .i64 t), isV (.int .i64 t), isV (.bool true), isV (.bool true), isV (.bool true), isV (.int .i64 t), isV (.int .i64 q), isV (.int .i64 t), isV (.int .i64 q1), isV (.int .i64 q2), isV (.int .i64 q), isV (.bool true), isV (.bool true)]) (by kernel_rfl) (by kernel_rfl) (fun _ _ h k => grown_trans k h) (fun j x w w' hg h => flF_stays hst j x w w' hg h) hw ?_ ?_
  · refine ⟨?_, ?_, ?_, ?_, ?_, ?_, ?_, ?_, ?_, ?_, ?_, ?_, ?_, ?_, ?_, ?_, ?_, ?_, ?_, ?_, ?_, ?_, ?_, ?_, ?_, ?_, ?_, ?_, ?_, ?_, ?_, ?_, ?_, ?_, ?_, ?_, ?_, ?_, ?_, ?_, ?_, ?_, ?_, ?_, ?_, ?_, trivial⟩
    · exact flow_step (fun us w hC hd => wants_free rfl) (fun us w hC hd => ⟨_, w, move_val rfl ((fill_old (by rfl)).trans h4), grown_refl _ _, rfl⟩)
    · exact flow_step (fun us w hC hd => wants_free rfl) (fun us w hC hd => ⟨_, w, eqlnil_val rfl ((fill_tmp (by rfl) (by rw [hsz]; decide)).trans (hd 0 (by decide))) (nilEq _), grown_refl _ _, rfl⟩)
    · exact flow_step (fun us w hC hd => wants_free rfl) (fun us w hC hd => ⟨_, w, move_val rfl ((fill_tmp (by rfl) (by rw [hsz]; decide)).trans (hd 1 (by decide))), grown_refl _ _, rfl⟩)
    · exact flow_step (fun us w hC hd => wants_on (d := 67) (b := true) rfl rfl (by rfl) (by rw [hsz]; decide) (hd 2 (by decide))) (fun us w hC hd => ⟨_, w, move_val rfl ((fill_old (by rfl)).trans h6), grown_refl _ _, rfl⟩)
    · exact flow_step (fun us w hC hd => wants_on (d := 67) (b := true) rfl rfl (by rfl) (by rw [hsz]; decide) (hd 2 (by decide))) (fun us w hC hd => ⟨_, w, eqlnil_val rfl ((fill_tmp (by rfl) (by rw [hsz]; decide)).trans (hd 3 (by decide))) (nilEq _), grown_refl _ _, rfl⟩)
    · exact flow_step (fun us w hC hd => wants_free rfl) (fun us w hC hd => ⟨_, w, pick_true rfl ((fill_tmp (by rfl) (by rw [hsz]; decide)).trans (hd 2 (by decide))) ((fill_tmp (by rfl) (by rw [hsz]; decide)).trans (hd 4 (by decide))), grown_refl _ _, rfl⟩)
    · exact flow_step (fun us w hC hd => wants_free rfl) (fun us w hC hd => ⟨_, w, move_val rfl ((fill_tmp (by rfl) (by rw [hsz]; decide)).trans (hd 5 (by decide))), grown_refl _ _, rfl⟩)
    · exact flow_step (fun us w hC hd => wants_on (d := 71) (b := true) rfl rfl (by rfl) (by rw [hsz]; decide) (hd 6 (by decide))) (fun us w hC hd => ⟨_, w, move_val rfl ((fill_old (by rfl)).trans h9), grown_refl _ _, rfl⟩)
    · exact flow_step (fun us w hC hd => wants_on (d := 71) (b := true) rfl rfl (by rfl) (by rw [hsz]; decide) (hd 6 (by decide))) (fun us w hC hd => ⟨_, w, eqlnil_val rfl ((fill_tmp (by rfl) (by rw [hsz]; decide)).trans (hd 7 (by decide))) (nilEq _), grown_refl _ _, rfl⟩)
    · exact flow_step (fun us w hC hd => wants_free rfl) (fun us w hC hd => ⟨_, w, pick_true rfl ((fill_tmp (by rfl) (by rw [hsz]; decide)).trans (hd 6 (by decide))) ((fill_tmp (by rfl) (by rw [hsz]; decide)).trans (hd 8 (by decide))), grown_refl _ _, rfl⟩)
    · exact flow_step (fun us w hC hd => wants_free rfl) (fun us w hC hd => ⟨_, w, move_val rfl ((fill_tmp (by rfl) (by rw [hsz]; decide)).trans (hd 9 (by decide))), grown_refl _ _, rfl⟩)
    · exact flow_step (fun us w hC hd => wants_on (d := 75) (b := true) rfl rfl (by rfl) (by rw [hsz]; decide) (hd 10 (by decide))) (fun us w hC hd => ⟨_, w, move_val rfl ((fill_old (by rfl)).trans h11), grown_refl _ _, rfl⟩)
    · exact flow_step (fun us w hC hd => wants_on (d := 75) (b := true) rfl rfl (by rfl) (by rw [hsz]; decide) (hd 10 (by decide))) (fun us w hC hd => ⟨_, w, eqlnil_val rfl ((fill_tmp (by rfl) (by rw [hsz]; decide)).trans (hd 11 (by decide))) (nilEq _), grown_refl _ _, rfl⟩)
    · exact flow_step (fun us w hC hd => wants_free rfl) (fun us w hC hd => ⟨_, w, pick_true rfl ((fill_tmp (by rfl) (by rw [hsz]; decide)).trans (hd 10 (by decide))) ((fill_tmp (by rfl) (by rw [hsz]; decide)).trans (hd 12 (by decide))), grown_refl _ _, rfl⟩)
    · exact flow_step (fun us w hC hd => wants_free rfl) (fun us w hC hd => ⟨_, w, move_val rfl ((fill_tmp (by rfl) (by rw [hsz]; decide)).trans (hd 13 (by decide))), grown_refl _ _, rfl⟩)
    · exact flow_step (fun us w hC hd => wants_on (d := 79) (b := true) rfl rfl (by rfl) (by rw [hsz]; decide) (hd 14 (by decide))) (fun us w hC hd => ⟨_, w, load_val rfl ((fill_old (by rfl)).trans h3) (h3r w hC) Tryd.underlying24 rfl hI1, grown_refl _ _, rfl⟩)
    · exact flow_step (fun us w hC hd => wants_on (d := 79) (b := true) rfl rfl (by rfl) (by rw [hsz]; decide) (hd 14 (by decide))) (fun us w hC hd => ⟨_, w, load_val rfl ((fill_old (by rfl)).trans h7) (h7r w hC) Tryd.underlying34 rfl hI2, grown_refl _ _, rfl⟩)
    · exact flow_step (fun us w hC hd => wants_on (d := 79) (b := true) rfl rfl (by rfl) (by rw [hsz]; decide) (hd 14 (by decide))) (fun us w hC hd => ⟨_, w, eqlAgg_val rfl ((fill_tmp (by rfl) (by rw [hsz]; decide)).trans (hd 15 (by decide))) ((fill_tmp (by rfl) (by rw [hsz]; decide)).trans (hd 16 (by decide))) (hEq _ _), grown_refl _ _, rfl⟩)
    · exact flow_step (fun us w hC hd => wants_free rfl) (fun us w hC hd => ⟨_, w, pick_true rfl ((fill_tmp (by rfl) (by rw [hsz]; decide)).trans (hd 14 (by decide))) ((fill_tmp (by rfl) (by rw [hsz]; decide)).trans (hd 17 (by decide))), grown_refl _ _, rfl⟩)
    · exact flow_step (fun us w hC hd => wants_free rfl) (fun us w hC hd => ⟨_, w, move_val rfl ((fill_tmp (by rfl) (by rw [hsz]; decide)).trans (hd 18 (by decide))), grown_refl _ _, rfl⟩)
    · exact flow_step (fun us w hC hd => wants_on (d := 84) (b := true) rfl rfl (by rfl) (by rw [hsz]; decide) (hd 19 (by decide))) (fun us w hC hd => ⟨_, w, move_val rfl ((fill_old (by rfl)).trans h5), grown_refl _ _, rfl⟩)
    · exact flow_step (fun us w hC hd => wants_on (d := 84) (b := true) rfl rfl (by rfl) (by rw [hsz]; decide) (hd 19 (by decide))) (fun us w hC hd => ⟨_, w, conv_val rfl ((fill_tmp (by rfl) (by rw [hsz]; decide)).trans (hd 20 (by decide))) (hSa w hC), grown_refl _ _, rfl⟩)
    · exact flow_step (fun us w hC hd => wants_on (d := 84) (b := true) rfl rfl (by rfl) (by rw [hsz]; decide) (hd 19 (by decide))) (fun us w hC hd => ⟨_, w, load_val rfl ((fill_old (by rfl)).trans h7) (h7r w hC) Tryd.underlying34 rfl hI2, grown_refl _ _, rfl⟩)
    · refine flow_call 15 (fun us => #[us 87]) (fun us w hC hd => wants_on (d := 84) (b := true) rfl rfl (by rfl) (by rw [hsz]; decide) (hd 19 (by decide))) (fun us w => by rw [call_enter rfl (fun _ _ => by simp [go_sem]), List.map_toArray, List.map_cons, List.map_nil, fill_tmp (by rfl) (by rw [hsz]; decide)]) (fun us w hC' hd => ?_)
      rw [show us 87 = .agg DC from hd 22 (by decide)]
      exact hX w hC'
    · exact flow_step (fun us w hC hd => wants_on (d := 84) (b := true) rfl rfl (by rfl) (by rw [hsz]; decide) (hd 19 (by decide))) (fun us w hC hd => ⟨_, w, conv_val rfl (fill_tmp (by rfl) (by rw [hsz]; decide)) (hSu w _ (hd 23 (by decide))), grown_refl _ _, rfl⟩)
    · exact flow_step (fun us w hC hd => wants_on (d := 84) (b := true) rfl rfl (by rfl) (by rw [hsz]; decide) (hd 19 (by decide))) (fun us w hC hd => ⟨_, w, eqlstr_val rfl ((fill_tmp (by rfl) (by rw [hsz]; decide)).trans (hd 21 (by decide))) ((fill_tmp (by rfl) (by rw [hsz]; decide)).trans (hd 24 (by decide))), grown_refl _ _, rfl⟩)
    · exact flow_step (fun us w hC hd => wants_free rfl) (fun us w hC hd => ⟨_, w, pick_true rfl ((fill_tmp (by rfl) (by rw [hsz]; decide)).trans (hd 19 (by decide))) ((fill_tmp (by rfl) (by rw [hsz]; decide)).trans (hd 25 (by decide))), grown_refl _ _, rfl⟩)
    · exact flow_step (fun us w hC hd => wants_free rfl) (fun us w hC hd => ⟨_, w, move_val rfl ((fill_tmp (by rfl) (by rw [hsz]; decide)).trans (hd 26 (by decide))), grown_refl _ _, rfl⟩)
    · exact flow_step (fun us w hC hd => wants_on (d := 92) (b := true) rfl rfl (by rfl) (by rw [hsz]; decide) (hd 27 (by decide))) (fun us w hC hd => ⟨_, w, move_val rfl ((fill_old (by rfl)).trans h8), grown_refl _ _, rfl⟩)
    · exact flow_step (fun us w hC hd => wants_on (d := 92) (b := true) rfl rfl (by rfl) (by rw [hsz]; decide) (hd 27 (by decide))) (fun us w hC hd => ⟨_, w, move_val rfl ((fill_old (by rfl)).trans h0), grown_refl _ _, rfl⟩)
    · exact flow_step (fun us w hC hd => wants_on (d := 92) (b := true) rfl rfl (by rfl) (by rw [hsz]; decide) (hd 27 (by decide))) (fun us w hC hd => ⟨_, w, (eqlint_val rfl ((fill_tmp (by rfl) (by rw [hsz]; decide)).trans (hd 28 (by decide))) ((fill_tmp (by rfl) (by rw [hsz]; decide)).trans (hd 29 (by decide)))).trans (by simp), grown_refl _ _, rfl⟩)
    · exact flow_step (fun us w hC hd => wants_free rfl) (fun us w hC hd => ⟨_, w, pick_true rfl ((fill_tmp (by rfl) (by rw [hsz]; decide)).trans (hd 27 (by decide))) ((fill_tmp (by rfl) (by rw [hsz]; decide)).trans (hd 30 (by decide))), grown_refl _ _, rfl⟩)
    · exact flow_step (fun us w hC hd => wants_free rfl) (fun us w hC hd => ⟨_, w, move_val rfl ((fill_tmp (by rfl) (by rw [hsz]; decide)).trans (hd 31 (by decide))), grown_refl _ _, rfl⟩)
    · exact flow_step (fun us w hC hd => wants_on (d := 97) (b := true) rfl rfl (by rfl) (by rw [hsz]; decide) (hd 32 (by decide))) (fun us w hC hd => ⟨_, w, move_val rfl ((fill_old (by rfl)).trans h10), grown_refl _ _, rfl⟩)
    · exact flow_step (fun us w hC hd => wants_on (d := 97) (b := true) rfl rfl (by rfl) (by rw [hsz]; decide) (hd 32 (by decide))) (fun us w hC hd => ⟨_, w, move_val rfl ((fill_old (by rfl)).trans h0), grown_refl _ _, rfl⟩)
    · exact flow_step (fun us w hC hd => wants_on (d := 97) (b := true) rfl rfl (by rfl) (by rw [hsz]; decide) (hd 32 (by decide))) (fun us w hC hd => ⟨_, w, (eqlint_val rfl ((fill_tmp (by rfl) (by rw [hsz]; decide)).trans (hd 33 (by decide))) ((fill_tmp (by rfl) (by rw [hsz]; decide)).trans (hd 34 (by decide)))).trans (by simp), grown_refl _ _, rfl⟩)
    · exact flow_step (fun us w hC hd => wants_free rfl) (fun us w hC hd => ⟨_, w, pick_true rfl ((fill_tmp (by rfl) (by rw [hsz]; decide)).trans (hd 32 (by decide))) ((fill_tmp (by rfl) (by rw [hsz]; decide)).trans (hd 35 (by decide))), grown_refl _ _, rfl⟩)
    · exact flow_step (fun us w hC hd => wants_free rfl) (fun us w hC hd => ⟨_, w, move_val rfl ((fill_tmp (by rfl) (by rw [hsz]; decide)).trans (hd 36 (by decide))), grown_refl _ _, rfl⟩)
    · exact flow_step (fun us w hC hd => wants_on (d := 102) (b := true) rfl rfl (by rfl) (by rw [hsz]; decide) (hd 37 (by decide))) (fun us w hC hd => ⟨_, w, move_val rfl ((fill_old (by rfl)).trans h0), grown_refl _ _, rfl⟩)
    · refine flow_call 11 (fun us => #[us 103]) (fun us w hC hd => wants_on (d := 102) (b := true) rfl rfl (by rfl) (by rw [hsz]; decide) (hd 37 (by decide))) (fun us w => by rw [call_enter rfl (fun _ _ => by simp [go_sem]), List.map_toArray, List.map_cons, List.map_nil, fill_tmp (by rfl) (by rw [hsz]; decide)]) (fun us w hC' hd => ?_)
      rw [show us 103 = .int .i64 t from hd 38 (by decide)]
      exact hWd w hC'
    · exact flow_step (fun us w hC hd => wants_on (d := 102) (b := true) rfl rfl (by rfl) (by rw [hsz]; decide) (hd 37 (by decide))) (fun us w hC hd => ⟨_, w, move_val rfl ((fill_old (by rfl)).trans h0), grown_refl _ _, rfl⟩)
    · exact flow_step (fun us w hC hd => wants_on (d := 102) (b := true) rfl rfl (by rfl) (by rw [hsz]; decide) (hd 37 (by decide))) (fun us w hC hd => ⟨_, w, (quoint_val rfl ((fill_tmp (by rfl) (by rw [hsz]; decide)).trans (hd 40 (by decide))) rfl (by decide)).trans (by rw [hq1]), grown_refl _ _, rfl⟩)
    · exact flow_step (fun us w hC hd => wants_on (d := 102) (b := true) rfl rfl (by rfl) (by rw [hsz]; decide) (hd 37 (by decide))) (fun us w hC hd => ⟨_, w, (addint_val rfl ((fill_tmp (by rfl) (by rw [hsz]; decide)).trans (hd 41 (by decide))) rfl).trans (by rw [hq2]), grown_refl _ _, rfl⟩)
    · exact flow_step (fun us w hC hd => wants_on (d := 102) (b := true) rfl rfl (by rfl) (by rw [hsz]; decide) (hd 37 (by decide))) (fun us w hC hd => ⟨_, w, (remint_val rfl ((fill_tmp (by rfl) (by rw [hsz]; decide)).trans (hd 42 (by decide))) rfl (by decide)).trans (by rw [hq3]), grown_refl _ _, rfl⟩)
    · exact flow_step (fun us w hC hd => wants_on (d := 102) (b := true) rfl rfl (by rfl) (by rw [hsz]; decide) (hd 37 (by decide))) (fun us w hC hd => ⟨_, w, (eqlint_val rfl ((fill_tmp (by rfl) (by rw [hsz]; decide)).trans (hd 39 (by decide))) ((fill_tmp (by rfl) (by rw [hsz]; decide)).trans (hd 43 (by decide)))).trans (by simp), grown_refl _ _, rfl⟩)
    · exact flow_step (fun us w hC hd => wants_free rfl) (fun us w hC hd => ⟨_, w, pick_true rfl ((fill_tmp (by rfl) (by rw [hsz]; decide)).trans (hd 37 (by decide))) ((fill_tmp (by rfl) (by rw [hsz]; decide)).trans (hd 44 (by decide))), grown_refl _ _, rfl⟩)
  · intro us w' hC' hd
    exact wpList_last rfl (assign_val rfl ((fill_tmp (by rfl) (by rw [hsz]; decide)).trans (hd 45 (by decide)))) (hQ us w' hC')
end Go.Proofs.YtndjhhebmbmppaaDoor
