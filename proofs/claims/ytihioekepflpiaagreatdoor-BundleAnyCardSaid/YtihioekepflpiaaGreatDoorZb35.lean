import Derived.Test.YtihioekepflpiaaGreatDoorZb22
import Derived.Test.YtihioekepflpiaaGreatDoorZb24
import Derived.Test.YtihioekepflpiaaGreatDoorZb34
set_option linter.unusedVariables false
set_option linter.unusedSimpArgs false
namespace Go.Proofs.YtihioekepflpiaaGreatDoor
open Go.RowKit
/-- A value that is a bundle of the document's. -/
def isD (b : Bu.Bd) (v : Value) (w : World) : Prop := ∃ q, v = .agg #[.int .i64 b.v, .string b.sp, q] ∧ Ans w q b.l
theorem stays_isD (b : Bu.Bd) : Stays (isD b) := fun v w w' hg h => by
  obtain ⟨q, h1, h2⟩ := h
  exact ⟨q, h1, h2.grown hg⟩
noncomputable def bs_region17C : Code := regionIn Tryz.f3.body 17
set_option maxRecDepth 100000 in
set_option maxHeartbeats 1000000 in
theorem bs_region17 (a : Act) (b2 b8 b9 b11 : Nat) (E : Value) (k : Int) (RB BB : Bu.Bd) (DN DM DB DW : Array Value) (W w : World) (Q : Exit → Act → World → Prop) (hsz : a.tmps.size = 126)
    (h10 : a.eval (.tmp 10) = E)
    (h12 : a.eval (.tmp 12) = .int .i64 k)
    (h9 : a.eval (.tmp 9) = .pointer (some ⟨b9, 0, none⟩))
    (h11 : a.eval (.tmp 11) = .pointer (some ⟨b11, 0, none⟩))
    (h2 : a.eval (.tmp 2) = .pointer (some ⟨b2, 0, none⟩))
    (h8 : a.eval (.tmp 8) = .pointer (some ⟨b8, 0, none⟩))
    (hN : ∀ w, W.grownBy w none → Calls Tryz.prog 12 #[E] w fun e w' => ∃ v, e = .returned v ∧ w.grownBy w' none ∧ isV (.int .i64 k) v w')
    (hO9 : ∀ w, W.grownBy w none → Calls Tryz.prog 7 #[.agg DN] w fun e w' => ∃ v, e = .returned v ∧ w.grownBy w' none ∧ isD RB v w')
    (hS9 : ∀ w u, W.grownBy w none → isD RB u w → Calls Tryz.prog 13 #[u, .agg DM] w fun e w' => ∃ v, e = .returned v ∧ w.grownBy w' none ∧ isV (.bool true) v w')
    (hO2 : ∀ w, W.grownBy w none → Calls Tryz.prog 7 #[.agg DB] w fun e w' => ∃ v, e = .returned v ∧ w.grownBy w' none ∧ isD BB v w')
    (hS2 : ∀ w u, W.grownBy w none → isD BB u w → Calls Tryz.prog 13 #[u, .agg DW] w fun e w' => ∃ v, e = .returned v ∧ w.grownBy w' none ∧ isV (.bool true) v w')
    (h9r : ∀ w, W.grownBy w none → w.heap[b9]? = some (.cells DN 24 (0, 0)))
    (h11r : ∀ w, W.grownBy w none → w.heap[b11]? = some (.cells DM 30 (0, 0)))
    (h2r : ∀ w, W.grownBy w none → w.heap[b2]? = some (.cells DB 24 (0, 0)))
    (h8r : ∀ w, W.grownBy w none → w.heap[b8]? = some (.cells DW 30 (0, 0)))
    (hIN : (Tryz.prog.info? 24).map (·.size) = some DN.size)
    (hIM : (Tryz.prog.info? 30).map (·.size) = some DM.size)
    (hIB : (Tryz.prog.info? 24).map (·.size) = some DB.size)
    (hIW : (Tryz.prog.info? 30).map (·.size) = some DW.size)
    (hw : W.grownBy { w with drawn := w.drawn + 1 } none)
    (hQ : ∀ us w', W.grownBy w' none → Q .normal ((fill a [73, 74, 75, 76, 77, 78, 79, 80, 81, 82, 83, 84, 85, 86, 87, 88, 89] us).put (some 90) (.bool false)) w') : bs_region17C.wp Tryz.prog Q a w := by
  have hst : StaysAll [isV (E), isV (.int .i64 k), isV (.int .i64 k), isV (.bool false), isV (.bool false), isV (.agg DN), isD RB, isV (.agg DM), isV (.bool true), isV (.bool false), isV (.bool false), isV (.bool false), isV (.agg DB), isD BB, isV (.agg DW), isV (.bool true), isV (.bool false)] := ⟨stays_V _, stays_V _, stays_V _, stays_V _, stays_V _, stays_V _, stays_isD _, stays_V _, stays_V _, stays_V _, stays_V _, stays_V _, stays_V _, stays_isD _, stays_V _, stays_V _, stays_V _, trivial⟩
  conv => arg 2; whnf
  refine wp_region_flow 17 [73, 74, 75, 76, 77, 78, 79, 80, 81, 82, 83, 84, 85, 86, 87, 88, 89] (fun w' => W.grownBy w' none) (fun w w' => w.grownBy w' none) (flF [isV (E), isV (.int .i64 k), isV (.int .i64 k), isV (.bool false), isV (.bool false), isV (.agg DN), isD RB, isV (.agg DM), isV (.bool true), isV (.bool false), isV (.bool false), isV (.bool false), isV (.agg DB), isD BB, isV (.agg DW), isV (.bool true), isV (.bool false)]) (by kernel_rfl) (by kernel_rfl) (fun _ _ h k => grown_trans k h) (fun j x w w' hg h => flF_stays hst j x w w' hg h) hw ?_ ?_
  · refine ⟨?_, ?_, ?_, ?_, ?_, ?_, ?_, ?_, ?_, ?_, ?_, ?_, ?_, ?_, ?_, ?_, ?_, trivial⟩
    · exact flow_step (fun us w hC hd => wants_free rfl) (fun us w hC hd => ⟨_, w, move_val rfl ((fill_old (by rfl)).trans h10), grown_refl _ _, rfl⟩)
    · refine flow_call 12 (fun us => #[us 73]) (fun us w hC hd => wants_free rfl) (fun us w => by rw [call_enter rfl (fun _ _ => by simp [go_sem]), List.map_toArray, List.map_cons, List.map_nil, fill_tmp (by rfl) (by rw [hsz]; decide)]) (fun us w hC' hd => ?_)
      rw [show us 73 = E from hd 0 (by decide)]
      exact hN w hC'
    · exact flow_step (fun us w hC hd => wants_free rfl) (fun us w hC hd => ⟨_, w, move_val rfl ((fill_old (by rfl)).trans h12), grown_refl _ _, rfl⟩)
    · exact flow_step (fun us w hC hd => wants_free rfl) (fun us w hC hd => ⟨_, w, neqint_val rfl ((fill_tmp (by rfl) (by rw [hsz]; decide)).trans (hd 1 (by decide))) ((fill_tmp (by rfl) (by rw [hsz]; decide)).trans (hd 2 (by decide))), grown_refl _ _, rfl⟩)
    · exact flow_step (fun us w hC hd => wants_free rfl) (fun us w hC hd => ⟨_, w, move_val rfl ((fill_tmp (by rfl) (by rw [hsz]; decide)).trans (hd 3 (by decide))), grown_refl _ _, rfl⟩)
    · exact flow_step (fun us w hC hd => wants_on (d := 77) (b := false) rfl rfl (by rfl) (by rw [hsz]; decide) (hd 4 (by decide))) (fun us w hC hd => ⟨_, w, load_val rfl ((fill_old (by rfl)).trans h9) (h9r w hC) Tryz.underlying24 rfl hIN, grown_refl _ _, rfl⟩)
    · refine flow_call 7 (fun us => #[us 78]) (fun us w hC hd => wants_on (d := 77) (b := false) rfl rfl (by rfl) (by rw [hsz]; decide) (hd 4 (by decide))) (fun us w => by rw [call_enter rfl (fun _ _ => by simp [go_sem]), List.map_toArray, List.map_cons, List.map_nil, fill_tmp (by rfl) (by rw [hsz]; decide)]) (fun us w hC' hd => ?_)
      rw [show us 78 = .agg DN from hd 5 (by decide)]
      exact hO9 w hC'
    · exact flow_step (fun us w hC hd => wants_on (d := 77) (b := false) rfl rfl (by rfl) (by rw [hsz]; decide) (hd 4 (by decide))) (fun us w hC hd => ⟨_, w, load_val rfl ((fill_old (by rfl)).trans h11) (h11r w hC) Tryz.underlying30 rfl hIM, grown_refl _ _, rfl⟩)
    · refine flow_call 13 (fun us => #[us 79, us 80]) (fun us w hC hd => wants_on (d := 77) (b := false) rfl rfl (by rfl) (by rw [hsz]; decide) (hd 4 (by decide))) (fun us w => by rw [call_enter rfl (fun _ _ => by simp [go_sem]), List.map_toArray, List.map_cons, List.map_cons, List.map_nil, fill_tmp (by rfl) (by rw [hsz]; decide), fill_tmp (by rfl) (by rw [hsz]; decide)]) (fun us w hC' hd => ?_)
      rw [show us 80 = .agg DM from hd 7 (by decide)]
      exact hS9 w _ hC' (hd 6 (by decide))
    · exact flow_step (fun us w hC hd => wants_on (d := 77) (b := false) rfl rfl (by rfl) (by rw [hsz]; decide) (hd 4 (by decide))) (fun us w hC hd => ⟨_, w, not_val rfl ((fill_tmp (by rfl) (by rw [hsz]; decide)).trans (hd 8 (by decide))), grown_refl _ _, rfl⟩)
    · exact flow_step (fun us w hC hd => wants_free rfl) (fun us w hC hd => ⟨_, w, pick_false rfl ((fill_tmp (by rfl) (by rw [hsz]; decide)).trans (hd 4 (by decide))) ((fill_tmp (by rfl) (by rw [hsz]; decide)).trans (hd 9 (by decide))), grown_refl _ _, rfl⟩)
    · exact flow_step (fun us w hC hd => wants_free rfl) (fun us w hC hd => ⟨_, w, move_val rfl ((fill_tmp (by rfl) (by rw [hsz]; decide)).trans (hd 10 (by decide))), grown_refl _ _, rfl⟩)
    · exact flow_step (fun us w hC hd => wants_on (d := 84) (b := false) rfl rfl (by rfl) (by rw [hsz]; decide) (hd 11 (by decide))) (fun us w hC hd => ⟨_, w, load_val rfl ((fill_old (by rfl)).trans h2) (h2r w hC) Tryz.underlying24 rfl hIB, grown_refl _ _, rfl⟩)
    · refine flow_call 7 (fun us => #[us 85]) (fun us w hC hd => wants_on (d := 84) (b := false) rfl rfl (by rfl) (by rw [hsz]; decide) (hd 11 (by decide))) (fun us w => by rw [call_enter rfl (fun _ _ => by simp [go_sem]), List.map_toArray, List.map_cons, List.map_nil, fill_tmp (by rfl) (by rw [hsz]; decide)]) (fun us w hC' hd => ?_)
      rw [show us 85 = .agg DB from hd 12 (by decide)]
      exact hO2 w hC'
    · exact flow_step (fun us w hC hd => wants_on (d := 84) (b := false) rfl rfl (by rfl) (by rw [hsz]; decide) (hd 11 (by decide))) (fun us w hC hd => ⟨_, w, load_val rfl ((fill_old (by rfl)).trans h8) (h8r w hC) Tryz.underlying30 rfl hIW, grown_refl _ _, rfl⟩)
    · refine flow_call 13 (fun us => #[us 86, us 87]) (fun us w hC hd => wants_on (d := 84) (b := false) rfl rfl (by rfl) (by rw [hsz]; decide) (hd 11 (by decide))) (fun us w => by rw [call_enter rfl (fun _ _ => by simp [go_sem]), List.map_toArray, List.map_cons, List.map_cons, List.map_nil, fill_tmp (by rfl) (by rw [hsz]; decide), fill_tmp (by rfl) (by rw [hsz]; decide)]) (fun us w hC' hd => ?_)
      rw [show us 87 = .agg DW from hd 14 (by decide)]
      exact hS2 w _ hC' (hd 13 (by decide))
    · exact flow_step (fun us w hC hd => wants_on (d := 84) (b := false) rfl rfl (by rfl) (by rw [hsz]; decide) (hd 11 (by decide))) (fun us w hC hd => ⟨_, w, not_val rfl ((fill_tmp (by rfl) (by rw [hsz]; decide)).trans (hd 15 (by decide))), grown_refl _ _, rfl⟩)
  · intro us w' hC' hd
    exact wpList_last rfl (pick_false rfl ((fill_tmp (by rfl) (by rw [hsz]; decide)).trans (hd 11 (by decide))) ((fill_tmp (by rfl) (by rw [hsz]; decide)).trans (hd 16 (by decide)))) (hQ us w' hC')
end Go.Proofs.YtihioekepflpiaaGreatDoor
