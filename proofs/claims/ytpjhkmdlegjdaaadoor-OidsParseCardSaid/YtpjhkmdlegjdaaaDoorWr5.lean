/- The region of the document's Serial that draws its order. -/
import Derived.Test.YtpjhkmdlegjdaaaDoorFl4
import Derived.Test.YtpjhkmdlegjdaaaDoorLib
namespace Go.Proofs.YtpjhkmdlegjdaaaDoor
open Go.RowKit

noncomputable def rs_regionC : Code := regionIn Tryd.f33.body 3
set_option linter.unusedVariables false
set_option maxRecDepth 100000 in
set_option maxHeartbeats 1000000 in
theorem rs_region (a : Act) (u : Nat) (T1 T2 : ByteArray) (W w : World) (Q : Exit → Act → World → Prop) (hsz : a.tmps.size = 20)
    (h0 : a.eval (.tmp 0) = .int .i64 (u : Int))
    (hS : ∀ w, W.grownBy w none → Calls Tryd.prog 33 #[.int .i64 ((u / 10 : Nat) : Int)] w fun e w' => ∃ v, e = .returned v ∧ w.grownBy w' none ∧ isV (.string T1) v w')
    (hCv : ∀ w, (convert 3 5 (.int .i64 ((48 + u % 10 : Nat) : Int))).run Tryd.prog w = .ok (.int .u8 ((48 + u % 10 : Nat) : Int)) w)
    (hBd : ∀ w, (Instr.buildSlice 30 1 #[(0, .int .u8 ((48 + u % 10 : Nat) : Int))]).run Tryd.prog w = .ok (.slice (some ⟨w.heap.size, 0, none⟩) 1 1) (w.alloc (.cells #[.int .u8 ((48 + u % 10 : Nat) : Int)] 5)))
    (hBl : 48 + u % 10 < 256)
    (hSu : ∀ w x, Bytes w x [48 + u % 10] → (convert 30 9 x).run Tryd.prog w = .ok (.string T2) w)
    (hu1 : IntKind.i64.wrap ((u : Int).tdiv 10) = ((u / 10 : Nat) : Int))
    (hu2 : (u : Int).tmod 10 = ((u % 10 : Nat) : Int))
    (hu3 : IntKind.i64.wrap (48 + ((u % 10 : Nat) : Int)) = ((48 + u % 10 : Nat) : Int))
    (hlen : T1.size + T2.size ≤ 1000)
    (hw : W.grownBy { w with drawn := w.drawn + 1 } none)
    (hQ : ∀ us w', W.grownBy w' none → Q .normal ((fill a [10, 11, 12, 13, 14, 15, 16, 17, 18, 19] us).put (some 2) (.string (T1 ++ T2))) w') : rs_regionC.wp Tryd.prog Q a w := by
  have hst : StaysAll [isV (.int .i64 (u : Int)), isV (.int .i64 ((u / 10 : Nat) : Int)), isV (.string T1), isV (.int .i64 (u : Int)), isV (.int .i64 ((u % 10 : Nat) : Int)), isV (.int .i64 ((48 + u % 10 : Nat) : Int)), isV (.int .u8 ((48 + u % 10 : Nat) : Int)), isB [48 + u % 10], isV (.string T2), isV (.string (T1 ++ T2))] := ⟨stays_V _, stays_V _, stays_V _, stays_V _, stays_V _, stays_V _, stays_V _, stays_B _, stays_V _, stays_V _, trivial⟩
  conv => arg 2; whnf
  refine wp_region_flow 10 [10, 11, 12, 13, 14, 15, 16, 17, 18, 19] (fun w' => W.grownBy w' none) (fun w w' => w.grownBy w' none) (flF [isV (.int .i64 (u : Int)), isV (.int .i64 ((u / 10 : Nat) : Int)), isV (.string T1), isV (.int .i64 (u : Int)), isV (.int .i64 ((u % 10 : Nat) : Int)), isV (.int .i64 ((48 + u % 10 : Nat) : Int)), isV (.int .u8 ((48 + u % 10 : Nat) : Int)), isB [48 + u % 10], isV (.string T2), isV (.string (T1 ++ T2))]) (by kernel_rfl) (by kernel_rfl) (fun _ _ h k => grown_trans k h) (fun j x w w' hg h => flF_stays hst j x w w' hg h) hw ?_ ?_
  · refine ⟨?_, ?_, ?_, ?_, ?_, ?_, ?_, ?_, ?_, ?_, trivial⟩
    · exact flow_step (fun us w hC hd => wants_free rfl) (fun us w hC hd => ⟨_, w, move_val rfl ((fill_old (by rfl)).trans h0), grown_refl _ _, rfl⟩)
    · exact flow_step (fun us w hC hd => wants_free rfl) (fun us w hC hd => ⟨_, w, (quoint_val rfl ((fill_tmp (by rfl) (by rw [hsz]; decide)).trans (hd 0 (by decide))) rfl (by decide)).trans (by rw [hu1]), grown_refl _ _, rfl⟩)
    · refine flow_call 33 (fun us => #[us 11]) (fun us w hC hd => wants_free rfl) (fun us w => by rw [call_enter rfl (fun _ _ => by simp [go_sem]), List.map_toArray, List.map_cons, List.map_nil, fill_tmp (by rfl) (by rw [hsz]; decide)]) (fun us w hC' hd => ?_)
      rw [show us 11 = .int .i64 ((u / 10 : Nat) : Int) from hd 1 (by decide)]
      exact hS w hC'
    · exact flow_step (fun us w hC hd => wants_free rfl) (fun us w hC hd => ⟨_, w, move_val rfl ((fill_old (by rfl)).trans h0), grown_refl _ _, rfl⟩)
    · exact flow_step (fun us w hC hd => wants_free rfl) (fun us w hC hd => ⟨_, w, (remint_val rfl ((fill_tmp (by rfl) (by rw [hsz]; decide)).trans (hd 3 (by decide))) rfl (by decide)).trans (by rw [hu2]), grown_refl _ _, rfl⟩)
    · exact flow_step (fun us w hC hd => wants_free rfl) (fun us w hC hd => ⟨_, w, (addint_val rfl rfl ((fill_tmp (by rfl) (by rw [hsz]; decide)).trans (hd 4 (by decide)))).trans (by rw [hu3]), grown_refl _ _, rfl⟩)
    · exact flow_step (fun us w hC hd => wants_free rfl) (fun us w hC hd => ⟨_, w, conv_val rfl ((fill_tmp (by rfl) (by rw [hsz]; decide)).trans (hd 5 (by decide))) (hCv w), grown_refl _ _, rfl⟩)
    · exact flow_step (fun us w hC hd => wants_free rfl) (fun us w hC hd => ⟨_, _, build1_val rfl ((fill_tmp (by rfl) (by rw [hsz]; decide)).trans (hd 6 (by decide))) (hBd w), World.grownBy_alloc _ _ _, Bytes.lit (l := [48 + u % 10]) (alloc_at w _) (by simpa using hBl)⟩)
    · exact flow_step (fun us w hC hd => wants_free rfl) (fun us w hC hd => ⟨_, w, conv_val rfl (fill_tmp (by rfl) (by rw [hsz]; decide)) (hSu w _ (hd 7 (by decide))), grown_refl _ _, rfl⟩)
    · exact flow_step (fun us w hC hd => wants_free rfl) (fun us w hC hd => ⟨_, w, addstr_val rfl ((fill_tmp (by rfl) (by rw [hsz]; decide)).trans (hd 2 (by decide))) ((fill_tmp (by rfl) (by rw [hsz]; decide)).trans (hd 8 (by decide))) hlen, grown_refl _ _, rfl⟩)
  · intro us w' hC' hd
    exact wpList_last rfl (assign_val rfl ((fill_tmp (by rfl) (by rw [hsz]; decide)).trans (hd 9 (by decide)))) (hQ us w' hC')
end Go.Proofs.YtpjhkmdlegjdaaaDoor
