/- Package moments: the region of isDate that draws its order. Package moments: the region of Seconds that draws its order. -/
import Derived.Test.YtndjhhebmbmppaaDoorFl7
namespace Go.Proofs.YtndjhhebmbmppaaDoor
set_option linter.unusedVariables false
open Go.RowKit

theorem fieldM (w : World) (B : Nat) : ∀ (k : Nat) (hk : k < 6), (Instr.fieldAt 24 (.pointer (some ⟨B, 0, none⟩)) k).run Tryd.prog w = .ok (.pointer (some ⟨B, k, none⟩)) w
  | 0, _ => by kernel_rfl
  | 1, _ => by kernel_rfl
  | 2, _ => by kernel_rfl
  | 3, _ => by kernel_rfl
  | 4, _ => by kernel_rfl
  | 5, _ => by kernel_rfl
  | n + 6, h => absurd h (by omega)

noncomputable def idt_regionC : Code := regionIn Tryd.f30.body 1
set_option linter.unusedVariables false
set_option maxRecDepth 100000 in
set_option maxHeartbeats 2000000 in
theorem idt_region (a : Act) (B : Nat) (Y M D h mi s : Int) (dd : Nat) (c1 c2 c3 c4 : Bool) (W w : World) (Q : Exit → Act → World → Prop) (hsz : a.tmps.size = 32)
    (h1 : a.eval (.tmp 1) = .pointer (some ⟨B, 0, none⟩))
    (hcl : ∀ w, W.grownBy w none → ∀ k z, [Y, M, D, h, mi, s][k]? = some z → w.cell? ⟨B, k, none⟩ = some (.int .i64 z))
    (hDy : ∀ w, W.grownBy w none → Calls Tryd.prog 21 #[.int .i64 Y, .int .i64 M] w fun e w' => e = .returned (.int .i64 ((dd : Nat) : Int)) ∧ w.grownBy w' none)
    (hk1 : inB 1970 9999 [Y] = c1)
    (hk2 : inB 1 ((dd : Nat) : Int) [D] = c2)
    (hk3 : inB 0 23 [h] = c3)
    (hk4 : inB 0 59 [mi, s] = c4)
    (hw : W.grownBy { w with drawn := w.drawn + 1 } none)
    (hQ : ∀ us w', W.grownBy w' none → Q .normal ((fill a [3, 4, 5, 6, 7, 8, 9, 10, 11, 12, 13, 14, 15, 16, 17, 18, 19, 20, 21, 22, 23, 24, 25, 26, 27, 28, 29, 30, 31] us).put (some 2) (.bool (((c1 && c2) && c3) && c4))) w') : idt_regionC.wp Tryd.prog Q a w := by
  have hst : StaysAll [isV (.pointer (some ⟨B, 0, none⟩)), isV (.int .i64 Y), isI ([Y]), isV (.bool c1), isV (.bool c1), isIf (c1) true (.pointer (some ⟨B, 0, none⟩)), isIf (c1) true (.int .i64 Y), isIf (c1) true (.pointer (some ⟨B, 1, none⟩)), isIf (c1) true (.int .i64 M), isIf (c1) true (.int .i64 ((dd : Nat) : Int)), isIf (c1) true (.pointer (some ⟨B, 2, none⟩)), isIf (c1) true (.int .i64 D), isIfI (c1) true ([D]), isIf (c1) true (.bool c2), isV (.bool (c1 && c2)), isV (.bool (c1 && c2)), isIf ((c1 && c2)) true (.pointer (some ⟨B, 3, none⟩)), isIf ((c1 && c2)) true (.int .i64 h), isIfI ((c1 && c2)) true ([h]), isIf ((c1 && c2)) true (.bool c3), isV (.bool ((c1 && c2) && c3)), isV (.bool ((c1 && c2) && c3)), isIf (((c1 && c2) && c3)) true (.pointer (some ⟨B, 4, none⟩)), isIf (((c1 && c2) && c3)) true (.int .i64 mi), isIf (((c1 && c2) && c3)) true (.pointer (some ⟨B, 5, none⟩)), isIf (((c1 && c2) && c3)) true (.int .i64 s), isIfI (((c1 && c2) && c3)) true ([mi, s]), isIf (((c1 && c2) && c3)) true (.bool c4), isV (.bool (((c1 && c2) && c3) && c4))] := ⟨stays_V _, stays_V _, stays_I _, stays_V _, stays_V _, stays_If _ _ _, stays_If _ _ _, stays_If _ _ _, stays_If _ _ _, stays_If _ _ _, stays_If _ _ _, stays_If _ _ _, stays_IfI _ _ _, stays_If _ _ _, stays_V _, stays_V _, stays_If _ _ _, stays_If _ _ _, stays_IfI _ _ _, stays_If _ _ _, stays_V _, stays_V _, stays_If _ _ _, stays_If _ _ _, stays_If _ _ _, stays_If _ _ _, stays_IfI _ _ _, stays_If _ _ _, stays_V _, trivial⟩
  conv => arg 2; whnf
  refine wp_region_flow 29 [3, 4, 5, 6, 7, 8, 9, 10, 11, 12, 13, 14, 15, 16, 17, 18, 19, 20, 21, 22, 23, 24, 25, 26, 27, 28, 29, 30, 31] (fun w' => W.grownBy w' none) (fun w w' => w.grownBy w' none) (flF [isV (.pointer (some ⟨B, 0, none⟩)), isV (.int .i64 Y), isI ([Y]), isV (.bool c1), isV (.bool c1), isIf (c1) true (.pointer (some ⟨B, 0, none⟩)), isIf (c1) true (.int .i64 Y), isIf (c1) true (.pointer (some ⟨B, 1, none⟩)), isIf (c1) true (.int .i64 M), isIf (c1) true (.int .i64 ((dd : Nat) : Int)), isIf (c1) true (.pointer (some ⟨B, 2, none⟩)), isIf (c1) true (.int .i64 D), isIfI (c1) true ([D]), isIf (c1) true (.bool c2), isV (.bool (c1 && c2)), isV (.bool (c1 && c2)), isIf ((c1 && c2)) true (.pointer (some ⟨B, 3, none⟩)), isIf ((c1 && c2)) true (.int .i64 h), isIfI ((c1 && c2)) true ([h]), isIf ((c1 && c2)) true (.bool c3), isV (.bool ((c1 && c2) && c3)), isV (.bool ((c1 && c2) && c3)), isIf (((c1 && c2) && c3)) true (.pointer (some ⟨B, 4, none⟩)), isIf (((c1 && c2) && c3)) true (.int .i64 mi), isIf (((c1 && c2) && c3)) true (.pointer (some ⟨B, 5, none⟩)), isIf (((c1 && c2) && c3)) true (.int .i64 s), isIfI (((c1 && c2) && c3)) true ([mi, s]), isIf (((c1 && c2) && c3)) true (.bool c4), isV (.bool (((c1 && c2) && c3) && c4))]) (by kernel_rfl) (by kernel_rfl) (fun _ _ h k => grown_trans k h) (fun j x w w' hg h => flF_stays hst j x w w' hg h) hw ?_ ?_
  · refine ⟨?_, ?_, ?_, ?_, ?_, ?_, ?_, ?_, ?_, ?_, ?_, ?_, ?_, ?_, ?_, ?_, ?_, ?_, ?_, ?_, ?_, ?_, ?_, ?_, ?_, ?_, ?_, ?_, ?_, trivial⟩
    · exact flow_step (fun us w hC hd => wants_free rfl) (fun us w hC hd => ⟨_, w, fieldA_val rfl ((fill_old (by rfl)).trans h1) (fieldM w B 0 (by decide)), grown_refl _ _, rfl⟩)
    · exact flow_step (fun us w hC hd => wants_free rfl) (fun us w hC hd => ⟨_, w, loadc_val rfl ((fill_tmp (by rfl) (by rw [hsz]; decide)).trans (hd 0 (by decide))) (loadI (hcl w hC 0 Y rfl)), grown_refl _ _, rfl⟩)
    · exact flow_step (fun us w hC hd => wants_free rfl) (fun us w hC hd => ⟨_, _, buildI1_val rfl ((fill_tmp (by rfl) (by rw [hsz]; decide)).trans (hd 1 (by decide))), World.grownBy_alloc _ _ _, ints1 w _⟩)
    · refine flow_call 35 (fun us => #[.int .i64 1970, .int .i64 9999, us 5]) (fun us w hC hd => wants_free rfl) (fun us w => by rw [call_enter rfl (fun _ _ => by simp [go_sem]), List.map_toArray, List.map_cons, List.map_cons, List.map_cons, List.map_nil, eval_const, eval_const, fill_tmp (by rfl) (by rw [hsz]; decide)]) (fun us w hC' hd => ?_)
      exact (within_g 1970 9999 (us 5) (hd 2 (by decide)) (by simp) hk1).mono (fun e w' h => ⟨_, h.1, h.2, rfl⟩)
    · exact flow_step (fun us w hC hd => wants_free rfl) (fun us w hC hd => ⟨_, w, move_val rfl ((fill_tmp (by rfl) (by rw [hsz]; decide)).trans (hd 3 (by decide))), grown_refl _ _, rfl⟩)
    · rcases Bool.eq_false_or_eq_true (c1) with hg | hg
      · exact flow_step (fun us w hC hd => wants_on (d := 7) (b := true) rfl rfl (by rfl) (by rw [hsz]; decide) ((hd 4 (by decide)).trans (by rw [hg]))) (fun us w hC hd => ⟨_, w, fieldA_val rfl ((fill_old (by rfl)).trans h1) (fieldM w B 0 (by decide)), grown_refl _ _, fun _ => rfl⟩)
      · exact flow_skip (fun us w hC hd => wants_not (d := 7) (b := true) rfl rfl (by rfl) (by rw [hsz]; decide) ((hd 4 (by decide)).trans (by rw [hg]; rfl))) (fun _ => grown_refl _ _) (fun _ _ h => by rw [hg] at h; cases h)
    · rcases Bool.eq_false_or_eq_true (c1) with hg | hg
      · exact flow_step (fun us w hC hd => wants_on (d := 7) (b := true) rfl rfl (by rfl) (by rw [hsz]; decide) ((hd 4 (by decide)).trans (by rw [hg]))) (fun us w hC hd => ⟨_, w, loadc_val rfl ((fill_tmp (by rfl) (by rw [hsz]; decide)).trans (hd 5 (by decide) hg)) (loadI (hcl w hC 0 Y rfl)), grown_refl _ _, fun _ => rfl⟩)
      · exact flow_skip (fun us w hC hd => wants_not (d := 7) (b := true) rfl rfl (by rfl) (by rw [hsz]; decide) ((hd 4 (by decide)).trans (by rw [hg]; rfl))) (fun _ => grown_refl _ _) (fun _ _ h => by rw [hg] at h; cases h)
    · rcases Bool.eq_false_or_eq_true (c1) with hg | hg
      · exact flow_step (fun us w hC hd => wants_on (d := 7) (b := true) rfl rfl (by rfl) (by rw [hsz]; decide) ((hd 4 (by decide)).trans (by rw [hg]))) (fun us w hC hd => ⟨_, w, fieldA_val rfl ((fill_old (by rfl)).trans h1) (fieldM w B 1 (by decide)), grown_refl _ _, fun _ => rfl⟩)
      · exact flow_skip (fun us w hC hd => wants_not (d := 7) (b := true) rfl rfl (by rfl) (by rw [hsz]; decide) ((hd 4 (by decide)).trans (by rw [hg]; rfl))) (fun _ => grown_refl _ _) (fun _ _ h => by rw [hg] at h; cases h)
    · rcases Bool.eq_false_or_eq_true (c1) with hg | hg
      · exact flow_step (fun us w hC hd => wants_on (d := 7) (b := true) rfl rfl (by rfl) (by rw [hsz]; decide) ((hd 4 (by decide)).trans (by rw [hg]))) (fun us w hC hd => ⟨_, w, loadc_val rfl ((fill_tmp (by rfl) (by rw [hsz]; decide)).trans (hd 7 (by decide) hg)) (loadI (hcl w hC 1 M rfl)), grown_refl _ _, fun _ => rfl⟩)
      · exact flow_skip (fun us w hC hd => wants_not (d := 7) (b := true) rfl rfl (by rfl) (by rw [hsz]; decide) ((hd 4 (by decide)).trans (by rw [hg]; rfl))) (fun _ => grown_refl _ _) (fun _ _ h => by rw [hg] at h; cases h)
    · rcases Bool.eq_false_or_eq_true (c1) with hg | hg
      · refine flow_call 21 (fun us => #[us 9, us 11]) (fun us w hC hd => wants_on (d := 7) (b := true) rfl rfl (by rfl) (by rw [hsz]; decide) ((hd 4 (by decide)).trans (by rw [hg]))) (fun us w => by rw [call_enter rfl (fun _ _ => by simp [go_sem]), List.map_toArray, List.map_cons, List.map_cons, List.map_nil, fill_tmp (by rfl) (by rw [hsz]; decide), fill_tmp (by rfl) (by rw [hsz]; decide)]) (fun us w hC' hd => ?_)
        rw [show us 9 = .int .i64 Y from hd 6 (by decide) hg]
        rw [show us 11 = .int .i64 M from hd 8 (by decide) hg]
        exact (hDy w hC').mono (fun e w' h => ⟨_, h.1, h.2, fun _ => rfl⟩)
      · exact flow_skip (fun us w hC hd => wants_not (d := 7) (b := true) rfl rfl (by rfl) (by rw [hsz]; decide) ((hd 4 (by decide)).trans (by rw [hg]; rfl))) (fun _ => grown_refl _ _) (fun _ _ h => by rw [hg] at h; cases h)
    · rcases Bool.eq_false_or_eq_true (c1) with hg | hg
      · exact flow_step (fun us w hC hd => wants_on (d := 7) (b := true) rfl rfl (by rfl) (by rw [hsz]; decide) ((hd 4 (by decide)).trans (by rw [hg]))) (fun us w hC hd => ⟨_, w, fieldA_val rfl ((fill_old (by rfl)).trans h1) (fieldM w B 2 (by decide)), grown_refl _ _, fun _ => rfl⟩)
      · exact flow_skip (fun us w hC hd => wants_not (d := 7) (b := true) rfl rfl (by rfl) (by rw [hsz]; decide) ((hd 4 (by decide)).trans (by rw [hg]; rfl))) (fun _ => grown_refl _ _) (fun _ _ h => by rw [hg] at h; cases h)
    · rcases Bool.eq_false_or_eq_true (c1) with hg | hg
      · exact flow_step (fun us w hC hd => wants_on (d := 7) (b := true) rfl rfl (by rfl) (by rw [hsz]; decide) ((hd 4 (by decide)).trans (by rw [hg]))) (fun us w hC hd => ⟨_, w, loadc_val rfl ((fill_tmp (by rfl) (by rw [hsz]; decide)).trans (hd 10 (by decide) hg)) (loadI (hcl w hC 2 D rfl)), grown_refl _ _, fun _ => rfl⟩)
      · exact flow_skip (fun us w hC hd => wants_not (d := 7) (b := true) rfl rfl (by rfl) (by rw [hsz]; decide) ((hd 4 (by decide)).trans (by rw [hg]; rfl))) (fun _ => grown_refl _ _) (fun _ _ h => by rw [hg] at h; cases h)
    · rcases Bool.eq_false_or_eq_true (c1) with hg | hg
      · exact flow_step (fun us w hC hd => wants_on (d := 7) (b := true) rfl rfl (by rfl) (by rw [hsz]; decide) ((hd 4 (by decide)).trans (by rw [hg]))) (fun us w hC hd => ⟨_, _, buildI1_val rfl ((fill_tmp (by rfl) (by rw [hsz]; decide)).trans (hd 11 (by decide) hg)), World.grownBy_alloc _ _ _, fun _ => ints1 w _⟩)
      · exact flow_skip (fun us w hC hd => wants_not (d := 7) (b := true) rfl rfl (by rfl) (by rw [hsz]; decide) ((hd 4 (by decide)).trans (by rw [hg]; rfl))) (fun _ => grown_refl _ _) (fun _ _ h => by rw [hg] at h; cases h)
    · rcases Bool.eq_false_or_eq_true (c1) with hg | hg
      · refine flow_call 35 (fun us => #[.int .i64 1, us 12, us 15]) (fun us w hC hd => wants_on (d := 7) (b := true) rfl rfl (by rfl) (by rw [hsz]; decide) ((hd 4 (by decide)).trans (by rw [hg]))) (fun us w => by rw [call_enter rfl (fun _ _ => by simp [go_sem]), List.map_toArray, List.map_cons, List.map_cons, List.map_cons, List.map_nil, eval_const, fill_tmp (by rfl) (by rw [hsz]; decide), fill_tmp (by rfl) (by rw [hsz]; decide)]) (fun us w hC' hd => ?_)
        rw [show us 12 = .int .i64 ((dd : Nat) : Int) from hd 9 (by decide) hg]
        exact (within_g 1 ((dd : Nat) : Int) (us 15) (hd 12 (by decide) hg) (by simp) hk2).mono (fun e w' h => ⟨_, h.1, h.2, fun _ => rfl⟩)
      · exact flow_skip (fun us w hC hd => wants_not (d := 7) (b := true) rfl rfl (by rfl) (by rw [hsz]; decide) ((hd 4 (by decide)).trans (by rw [hg]; rfl))) (fun _ => grown_refl _ _) (fun _ _ h => by rw [hg] at h; cases h)
    · rcases Bool.eq_false_or_eq_true (c1) with hg | hg
      · exact flow_step (fun us w hC hd => wants_free rfl) (fun us w hC hd => ⟨_, w, pick_true rfl ((fill_tmp (by rfl) (by rw [hsz]; decide)).trans ((hd 4 (by decide)).trans (by rw [hg]))) ((fill_tmp (by rfl) (by rw [hsz]; decide)).trans (hd 13 (by decide) hg)), grown_refl _ _, (by rw [hg]; rfl : Value.bool (c2) = .bool (c1 && c2))⟩)
      · exact flow_step (fun us w hC hd => wants_free rfl) (fun us w hC hd => ⟨_, w, pick_false rfl ((fill_tmp (by rfl) (by rw [hsz]; decide)).trans ((hd 4 (by decide)).trans (by rw [hg]))) rfl, grown_refl _ _, (by rw [hg]; rfl : Value.bool (false) = .bool (c1 && c2))⟩)
    · exact flow_step (fun us w hC hd => wants_free rfl) (fun us w hC hd => ⟨_, w, move_val rfl ((fill_tmp (by rfl) (by rw [hsz]; decide)).trans (hd 14 (by decide))), grown_refl _ _, rfl⟩)
    · rcases Bool.eq_false_or_eq_true ((c1 && c2)) with hg | hg
      · exact flow_step (fun us w hC hd => wants_on (d := 18) (b := true) rfl rfl (by rfl) (by rw [hsz]; decide) ((hd 15 (by decide)).trans (by rw [hg]))) (fun us w hC hd => ⟨_, w, fieldA_val rfl ((fill_old (by rfl)).trans h1) (fieldM w B 3 (by decide)), grown_refl _ _, fun _ => rfl⟩)
      · exact flow_skip (fun us w hC hd => wants_not (d := 18) (b := true) rfl rfl (by rfl) (by rw [hsz]; decide) ((hd 15 (by decide)).trans (by rw [hg]; rfl))) (fun _ => grown_refl _ _) (fun _ _ h => by rw [hg] at h; cases h)
    · rcases Bool.eq_false_or_eq_true ((c1 && c2)) with hg | hg
      · exact flow_step (fun us w hC hd => wants_on (d := 18) (b := true) rfl rfl (by rfl) (by rw [hsz]; decide) ((hd 15 (by decide)).trans (by rw [hg]))) (fun us w hC hd => ⟨_, w, loadc_val rfl ((fill_tmp (by rfl) (by rw [hsz]; decide)).trans (hd 16 (by decide) hg)) (loadI (hcl w hC 3 h rfl)), grown_refl _ _, fun _ => rfl⟩)
      · exact flow_skip (fun us w hC hd => wants_not (d := 18) (b := true) rfl rfl (by rfl) (by rw [hsz]; decide) ((hd 15 (by decide)).trans (by rw [hg]; rfl))) (fun _ => grown_refl _ _) (fun _ _ h => by rw [hg] at h; cases h)
    · rcases Bool.eq_false_or_eq_true ((c1 && c2)) with hg | hg
      · exact flow_step (fun us w hC hd => wants_on (d := 18) (b := true) rfl rfl (by rfl) (by rw [hsz]; decide) ((hd 15 (by decide)).trans (by rw [hg]))) (fun us w hC hd => ⟨_, _, buildI1_val rfl ((fill_tmp (by rfl) (by rw [hsz]; decide)).trans (hd 17 (by decide) hg)), World.grownBy_alloc _ _ _, fun _ => ints1 w _⟩)
      · exact flow_skip (fun us w hC hd => wants_not (d := 18) (b := true) rfl rfl (by rfl) (by rw [hsz]; decide) ((hd 15 (by decide)).trans (by rw [hg]; rfl))) (fun _ => grown_refl _ _) (fun _ _ h => by rw [hg] at h; cases h)
    · rcases Bool.eq_false_or_eq_true ((c1 && c2)) with hg | hg
      · refine flow_call 35 (fun us => #[.int .i64 0, .int .i64 23, us 21]) (fun us w hC hd => wants_on (d := 18) (b := true) rfl rfl (by rfl) (by rw [hsz]; decide) ((hd 15 (by decide)).trans (by rw [hg]))) (fun us w => by rw [call_enter rfl (fun _ _ => by simp [go_sem]), List.map_toArray, List.map_cons, List.map_cons, List.map_cons, List.map_nil, eval_const, eval_const, fill_tmp (by rfl) (by rw [hsz]; decide)]) (fun us w hC' hd => ?_)
        exact (within_g 0 23 (us 21) (hd 18 (by decide) hg) (by simp) hk3).mono (fun e w' h => ⟨_, h.1, h.2, fun _ => rfl⟩)
      · exact flow_skip (fun us w hC hd => wants_not (d := 18) (b := true) rfl rfl (by rfl) (by rw [hsz]; decide) ((hd 15 (by decide)).trans (by rw [hg]; rfl))) (fun _ => grown_refl _ _) (fun _ _ h => by rw [hg] at h; cases h)
    · rcases Bool.eq_false_or_eq_true ((c1 && c2)) with hg | hg
      · exact flow_step (fun us w hC hd => wants_free rfl) (fun us w hC hd => ⟨_, w, pick_true rfl ((fill_tmp (by rfl) (by rw [hsz]; decide)).trans ((hd 15 (by decide)).trans (by rw [hg]))) ((fill_tmp (by rfl) (by rw [hsz]; decide)).trans (hd 19 (by decide) hg)), grown_refl _ _, (by rw [hg]; rfl : Value.bool (c3) = .bool ((c1 && c2) && c3))⟩)
      · exact flow_step (fun us w hC hd => wants_free rfl) (fun us w hC hd => ⟨_, w, pick_false rfl ((fill_tmp (by rfl) (by rw [hsz]; decide)).trans ((hd 15 (by decide)).trans (by rw [hg]))) rfl, grown_refl _ _, (by rw [hg]; rfl : Value.bool (false) = .bool ((c1 && c2) && c3))⟩)
    · exact flow_step (fun us w hC hd => wants_free rfl) (fun us w hC hd => ⟨_, w, move_val rfl ((fill_tmp (by rfl) (by rw [hsz]; decide)).trans (hd 20 (by decide))), grown_refl _ _, rfl⟩)
    · rcases Bool.eq_false_or_eq_true (((c1 && c2) && c3)) with hg | hg
      · exact flow_step (fun us w hC hd => wants_on (d := 24) (b := true) rfl rfl (by rfl) (by rw [hsz]; decide) ((hd 21 (by decide)).trans (by rw [hg]))) (fun us w hC hd => ⟨_, w, fieldA_val rfl ((fill_old (by rfl)).trans h1) (fieldM w B 4 (by decide)), grown_refl _ _, fun _ => rfl⟩)
      · exact flow_skip (fun us w hC hd => wants_not (d := 24) (b := true) rfl rfl (by rfl) (by rw [hsz]; decide) ((hd 21 (by decide)).trans (by rw [hg]; rfl))) (fun _ => grown_refl _ _) (fun _ _ h => by rw [hg] at h; cases h)
    · rcases Bool.eq_false_or_eq_true (((c1 && c2) && c3)) with hg | hg
      · exact flow_step (fun us w hC hd => wants_on (d := 24) (b := true) rfl rfl (by rfl) (by rw [hsz]; decide) ((hd 21 (by decide)).trans (by rw [hg]))) (fun us w hC hd => ⟨_, w, loadc_val rfl ((fill_tmp (by rfl) (by rw [hsz]; decide)).trans (hd 22 (by decide) hg)) (loadI (hcl w hC 4 mi rfl)), grown_refl _ _, fun _ => rfl⟩)
      · exact flow_skip (fun us w hC hd => wants_not (d := 24) (b := true) rfl rfl (by rfl) (by rw [hsz]; decide) ((hd 21 (by decide)).trans (by rw [hg]; rfl))) (fun _ => grown_refl _ _) (fun _ _ h => by rw [hg] at h; cases h)
    · rcases Bool.eq_false_or_eq_true (((c1 && c2) && c3)) with hg | hg
      · exact flow_step (fun us w hC hd => wants_on (d := 24) (b := true) rfl rfl (by rfl) (by rw [hsz]; decide) ((hd 21 (by decide)).trans (by rw [hg]))) (fun us w hC hd => ⟨_, w, fieldA_val rfl ((fill_old (by rfl)).trans h1) (fieldM w B 5 (by decide)), grown_refl _ _, fun _ => rfl⟩)
      · exact flow_skip (fun us w hC hd => wants_not (d := 24) (b := true) rfl rfl (by rfl) (by rw [hsz]; decide) ((hd 21 (by decide)).trans (by rw [hg]; rfl))) (fun _ => grown_refl _ _) (fun _ _ h => by rw [hg] at h; cases h)
    · rcases Bool.eq_false_or_eq_true (((c1 && c2) && c3)) with hg | hg
      · exact flow_step (fun us w hC hd => wants_on (d := 24) (b := true) rfl rfl (by rfl) (by rw [hsz]; decide) ((hd 21 (by decide)).trans (by rw [hg]))) (fun us w hC hd => ⟨_, w, loadc_val rfl ((fill_tmp (by rfl) (by rw [hsz]; decide)).trans (hd 24 (by decide) hg)) (loadI (hcl w hC 5 s rfl)), grown_refl _ _, fun _ => rfl⟩)
      · exact flow_skip (fun us w hC hd => wants_not (d := 24) (b := true) rfl rfl (by rfl) (by rw [hsz]; decide) ((hd 21 (by decide)).trans (by rw [hg]; rfl))) (fun _ => grown_refl _ _) (fun _ _ h => by rw [hg] at h; cases h)
    · rcases Bool.eq_false_or_eq_true (((c1 && c2) && c3)) with hg | hg
      · exact flow_step (fun us w hC hd => wants_on (d := 24) (b := true) rfl rfl (by rfl) (by rw [hsz]; decide) ((hd 21 (by decide)).trans (by rw [hg]))) (fun us w hC hd => ⟨_, _, buildI2_val rfl ((fill_tmp (by rfl) (by rw [hsz]; decide)).trans (hd 23 (by decide) hg)) ((fill_tmp (by rfl) (by rw [hsz]; decide)).trans (hd 25 (by decide) hg)), World.grownBy_alloc _ _ _, fun _ => ints2 w _ _⟩)
      · exact flow_skip (fun us w hC hd => wants_not (d := 24) (b := true) rfl rfl (by rfl) (by rw [hsz]; decide) ((hd 21 (by decide)).trans (by rw [hg]; rfl))) (fun _ => grown_refl _ _) (fun _ _ h => by rw [hg] at h; cases h)
    · rcases Bool.eq_false_or_eq_true (((c1 && c2) && c3)) with hg | hg
      · refine flow_call 35 (fun us => #[.int .i64 0, .int .i64 59, us 29]) (fun us w hC hd => wants_on (d := 24) (b := true) rfl rfl (by rfl) (by rw [hsz]; decide) ((hd 21 (by decide)).trans (by rw [hg]))) (fun us w => by rw [call_enter rfl (fun _ _ => by simp [go_sem]), List.map_toArray, List.map_cons, List.map_cons, List.map_cons, List.map_nil, eval_const, eval_const, fill_tmp (by rfl) (by rw [hsz]; decide)]) (fun us w hC' hd => ?_)
        exact (within_g 0 59 (us 29) (hd 26 (by decide) hg) (by simp) hk4).mono (fun e w' h => ⟨_, h.1, h.2, fun _ => rfl⟩)
      · exact flow_skip (fun us w hC hd => wants_not (d := 24) (b := true) rfl rfl (by rfl) (by rw [hsz]; decide) ((hd 21 (by decide)).trans (by rw [hg]; rfl))) (fun _ => grown_refl _ _) (fun _ _ h => by rw [hg] at h; cases h)
    · rcases Bool.eq_false_or_eq_true (((c1 && c2) && c3)) with hg | hg
      · exact flow_step (fun us w hC hd => wants_free rfl) (fun us w hC hd => ⟨_, w, pick_true rfl ((fill_tmp (by rfl) (by rw [hsz]; decide)).trans ((hd 21 (by decide)).trans (by rw [hg]))) ((fill_tmp (by rfl) (by rw [hsz]; decide)).trans (hd 27 (by decide) hg)), grown_refl _ _, (by rw [hg]; rfl : Value.bool (c4) = .bool (((c1 && c2) && c3) && c4))⟩)
      · exact flow_step (fun us w hC hd => wants_free rfl) (fun us w hC hd => ⟨_, w, pick_false rfl ((fill_tmp (by rfl) (by rw [hsz]; decide)).trans ((hd 21 (by decide)).trans (by rw [hg]))) rfl, grown_refl _ _, (by rw [hg]; rfl : Value.bool (false) = .bool (((c1 && c2) && c3) && c4))⟩)
  · intro us w' hC' hd
    exact wpList_last rfl (assign_val rfl ((fill_tmp (by rfl) (by rw [hsz]; decide)).trans (hd 28 (by decide)))) (hQ us w' hC')
end Go.Proofs.YtndjhhebmbmppaaDoor
namespace Go.Proofs.YtndjhhebmbmppaaDoor
open Go.RowKit

noncomputable def sec_regionC : Code := regionIn Tryd.f13.body 3
set_option linter.unusedVariables false
set_option maxRecDepth 100000 in
set_option maxHeartbeats 2000000 in
theorem sec_region (a : Act) (B : Nat) (Y M D h mi s A r1 r2 r3 r4 r5 r6 : Int) (DC : Array Value) (c0 : Bool) (W w : World) (Q : Exit → Act → World → Prop) (hsz : a.tmps.size = 22)
    (h1 : a.eval (.tmp 1) = .pointer (some ⟨B, 0, none⟩))
    (hcl : ∀ w, W.grownBy w none → ∀ k z, [Y, M, D, h, mi, s][k]? = some z → w.cell? ⟨B, k, none⟩ = some (.int .i64 z))
    (hrow : ∀ w, W.grownBy w none → w.heap[B]? = some (.cells DC 24 (0, 0)))
    (hinf : (Tryd.prog.info? 24).map (·.size) = some DC.size)
    (hDd : ∀ w, W.grownBy w none → Calls Tryd.prog 31 #[.agg DC] w fun e w' => e = .returned (.int .i64 A) ∧ w.grownBy w' none)
    (hw1 : IntKind.i64.wrap (A * 86400) = r1)
    (hw2 : IntKind.i64.wrap (h * 3600) = r2)
    (hw3 : IntKind.i64.wrap (r1 + r2) = r3)
    (hw4 : IntKind.i64.wrap (mi * 60) = r4)
    (hw5 : IntKind.i64.wrap (r3 + r4) = r5)
    (hw6 : IntKind.i64.wrap (r5 + s) = r6)
    (hw : W.grownBy { w with drawn := w.drawn + 1 } none)
    (hQ : ∀ us w', W.grownBy w' none → us 2 = .int .i64 r6 → Q .normal ((fill a [8, 9, 10, 11, 12, 13, 14, 15, 16, 17, 18, 19, 20, 21, 2] us).put (some 3) (.nilIface)) w') : sec_regionC.wp Tryd.prog Q a w := by
  have hst : StaysAll [isV (.agg DC), isV (.int .i64 A), isV (.int .i64 r1), isV (.pointer (some ⟨B, 3, none⟩)), isV (.int .i64 h), isV (.int .i64 r2), isV (.int .i64 r3), isV (.pointer (some ⟨B, 4, none⟩)), isV (.int .i64 mi), isV (.int .i64 r4), isV (.int .i64 r5), isV (.pointer (some ⟨B, 5, none⟩)), isV (.int .i64 s), isV (.int .i64 r6), isV (.int .i64 r6)] := ⟨stays_V _, stays_V _, stays_V _, stays_V _, stays_V _, stays_V _, stays_V _, stays_V _, stays_V _, stays_V _, stays_V _, stays_V _, stays_V _, stays_V _, stays_V _, trivial⟩
  conv => arg 2; whnf
  refine wp_region_flow 15 [8, 9, 10, 11, 12, 13, 14, 15, 16, 17, 18, 19, 20, 21, 2] (fun w' => W.grownBy w' none) (fun w w' => w.grownBy w' none) (flF [isV (.agg DC), isV (.int .i64 A), isV (.int .i64 r1), isV (.pointer (some ⟨B, 3, none⟩)), isV (.int .i64 h), isV (.int .i64 r2), isV (.int .i64 r3), isV (.pointer (some ⟨B, 4, none⟩)), isV (.int .i64 mi), isV (.int .i64 r4), isV (.int .i64 r5), isV (.pointer (some ⟨B, 5, none⟩)), isV (.int .i64 s), isV (.int .i64 r6), isV (.int .i64 r6)]) (by kernel_rfl) (by kernel_rfl) (fun _ _ h k => grown_trans k h) (fun j x w w' hg h => flF_stays hst j x w w' hg h) hw ?_ ?_
  · refine ⟨?_, ?_, ?_, ?_, ?_, ?_, ?_, ?_, ?_, ?_, ?_, ?_, ?_, ?_, ?_, trivial⟩
    · exact flow_step (fun us w hC hd => wants_free rfl) (fun us w hC hd => ⟨_, w, load_val rfl ((fill_old (by rfl)).trans h1) (hrow w hC) Tryd.underlying24 rfl hinf, grown_refl _ _, rfl⟩)
    · refine flow_call 31 (fun us => #[us 8]) (fun us w hC hd => wants_free rfl) (fun us w => by rw [call_enter rfl (fun _ _ => by simp [go_sem]), List.map_toArray, List.map_cons, List.map_nil, fill_tmp (by rfl) (by rw [hsz]; decide)]) (fun us w hC' hd => ?_)
      rw [show us 8 = .agg DC from hd 0 (by decide)]
      exact (hDd w hC').mono (fun e w' h => ⟨_, h.1, h.2, rfl⟩)
    · exact flow_step (fun us w hC hd => wants_free rfl) (fun us w hC hd => ⟨_, w, (mulint_val rfl ((fill_tmp (by rfl) (by rw [hsz]; decide)).trans (hd 1 (by decide))) rfl).trans (by rw [hw1]), grown_refl _ _, rfl⟩)
    · exact flow_step (fun us w hC hd => wants_free rfl) (fun us w hC hd => ⟨_, w, fieldA_val rfl ((fill_old (by rfl)).trans h1) (fieldM w B 3 (by decide)), grown_refl _ _, rfl⟩)
    · exact flow_step (fun us w hC hd => wants_free rfl) (fun us w hC hd => ⟨_, w, loadc_val rfl ((fill_tmp (by rfl) (by rw [hsz]; decide)).trans (hd 3 (by decide))) (loadI (hcl w hC 3 h rfl)), grown_refl _ _, rfl⟩)
    · exact flow_step (fun us w hC hd => wants_free rfl) (fun us w hC hd => ⟨_, w, (mulint_val rfl ((fill_tmp (by rfl) (by rw [hsz]; decide)).trans (hd 4 (by decide))) rfl).trans (by rw [hw2]), grown_refl _ _, rfl⟩)
    · exact flow_step (fun us w hC hd => wants_free rfl) (fun us w hC hd => ⟨_, w, (addint_val rfl ((fill_tmp (by rfl) (by rw [hsz]; decide)).trans (hd 2 (by decide))) ((fill_tmp (by rfl) (by rw [hsz]; decide)).trans (hd 5 (by decide)))).trans (by rw [hw3]), grown_refl _ _, rfl⟩)
    · exact flow_step (fun us w hC hd => wants_free rfl) (fun us w hC hd => ⟨_, w, fieldA_val rfl ((fill_old (by rfl)).trans h1) (fieldM w B 4 (by decide)), grown_refl _ _, rfl⟩)
    · exact flow_step (fun us w hC hd => wants_free rfl) (fun us w hC hd => ⟨_, w, loadc_val rfl ((fill_tmp (by rfl) (by rw [hsz]; decide)).trans (hd 7 (by decide))) (loadI (hcl w hC 4 mi rfl)), grown_refl _ _, rfl⟩)
    · exact flow_step (fun us w hC hd => wants_free rfl) (fun us w hC hd => ⟨_, w, (mulint_val rfl ((fill_tmp (by rfl) (by rw [hsz]; decide)).trans (hd 8 (by decide))) rfl).trans (by rw [hw4]), grown_refl _ _, rfl⟩)
    · exact flow_step (fun us w hC hd => wants_free rfl) (fun us w hC hd => ⟨_, w, (addint_val rfl ((fill_tmp (by rfl) (by rw [hsz]; decide)).trans (hd 6 (by decide))) ((fill_tmp (by rfl) (by rw [hsz]; decide)).trans (hd 9 (by decide)))).trans (by rw [hw5]), grown_refl _ _, rfl⟩)
    · exact flow_step (fun us w hC hd => wants_free rfl) (fun us w hC hd => ⟨_, w, fieldA_val rfl ((fill_old (by rfl)).trans h1) (fieldM w B 5 (by decide)), grown_refl _ _, rfl⟩)
    · exact flow_step (fun us w hC hd => wants_free rfl) (fun us w hC hd => ⟨_, w, loadc_val rfl ((fill_tmp (by rfl) (by rw [hsz]; decide)).trans (hd 11 (by decide))) (loadI (hcl w hC 5 s rfl)), grown_refl _ _, rfl⟩)
    · exact flow_step (fun us w hC hd => wants_free rfl) (fun us w hC hd => ⟨_, w, (addint_val rfl ((fill_tmp (by rfl) (by rw [hsz]; decide)).trans (hd 10 (by decide))) ((fill_tmp (by rfl) (by rw [hsz]; decide)).trans (hd 12 (by decide)))).trans (by rw [hw6]), grown_refl _ _, rfl⟩)
    · exact flow_step (fun us w hC hd => wants_free rfl) (fun us w hC hd => ⟨_, w, assign_val rfl ((fill_tmp (by rfl) (by rw [hsz]; decide)).trans (hd 13 (by decide))), grown_refl _ _, rfl⟩)
  · intro us w' hC' hd
    exact wpList_last rfl (assign_val rfl rfl) (hQ us w' hC' (hd 14 (by decide)))
end Go.Proofs.YtndjhhebmbmppaaDoor
