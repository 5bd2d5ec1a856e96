/- The document's Right and Text of subjects. -/
import Derived.Test.YtepjjgplnmkjgaaDoorNq2
namespace Go.Proofs.YtepjjgplnmkjgaaDoor
open Go.RowKit
set_option linter.unusedVariables false

def i64 (k : Int) : Prop := -9223372036854775808 ≤ k ∧ k ≤ 9223372036854775807
theorem word_emp (k : Int) : (Na.word k).toList.isEmpty = !decide (1 ≤ k ∧ k ≤ 5) := by
  by_cases h : 1 ≤ k ∧ k ≤ 5
  · rw [decide_eq_true h]
    rcases (show k = 1 ∨ k = 2 ∨ k = 3 ∨ k = 4 ∨ k = 5 by omega) with rfl | rfl | rfl | rfl | rfl <;> decide +kernel
  · rw [decide_eq_false h, show Na.word k = Na.e0 by unfold Na.word; rw [if_neg (by omega), if_neg (by omega), if_neg (by omega), if_neg (by omega), if_neg (by omega)]; rfl]
    decide +kernel
set_option maxRecDepth 100000 in
set_option maxHeartbeats 2000000 in
theorem refRight9_any (s : Na.Sb) (hk : i64 s.k) (h1 : s.sp.size ≤ 1000000) (h2 : s.nm.size ≤ 1000000) (w : World) : Calls Tryd.prog 21 #[Na.val s] w fun e w' => e = .returned (.bool (Na.right s)) ∧ w.grownBy w' none := by
  obtain ⟨k, sp, nm⟩ := s
  have HWd := Lib.hid (fun W => word_any k hk W)
  have HL1 := Lib.hid (fun W => refLabel_any sp h1 W)
  have HL2 := Lib.hid (fun W => refLabel_any nm h2 W)
  have he := emp_str sp
  have hwe := word_emp k
  unfold Na.val Na.right
  simp only
  generalize Pt.label (strL nm) = ln at *
  generalize Pt.label (strL sp) = ls at *
  generalize hd : decide (sp = ⟨#[]⟩) = ds at *
  generalize Na.word k = wk at *
  clear h1 h2 hd hk
  have HC : Hid (∀ W, (w.alloc (.cells #[.int .i64 k, .string sp, .string nm] 27)).grownBy W none → W.cell? ⟨w.heap.size, 0, none⟩ = some (.int .i64 k) ∧ W.cell? ⟨w.heap.size, 1, none⟩ = some (.string sp) ∧ W.cell? ⟨w.heap.size, 2, none⟩ = some (.string nm)) := Lib.hid (fun W hg => by
    have hb := hg.block w.heap.size (by rw [alloc_size]; omega) (by simp)
    exact ⟨(World.cell?_of_block hb).trans (cell_blk (alloc_at w _) 0 rfl), (World.cell?_of_block hb).trans (cell_blk (alloc_at w _) 1 rfl), (World.cell?_of_block hb).trans (cell_blk (alloc_at w _) 2 rfl)⟩)
  generalize hq : decide (1 ≤ k ∧ k ≤ 5) = q at *
  clear hq
  by_cases k2 : k = 2
  · subst k2
    rw [if_pos rfl]
    clear he
    cases q <;> cases ln
    all_goals
      go_enter Tryd.func21, Tryd.ntmps21
      go_wp2_with (first
        | (go_at_call 26; refine (HWd.out _).mono ?_; rintro e w2 ⟨rfl, hg2⟩; obtain ⟨c0, c1, c2⟩ := HC.out _ hg2; have HG := Lib.hid (grown_trans (grown_alloc (grown_refl _ _) _) hg2); clear hg2)
        | (go_at_call 32; with_reducible refine (HL2.out _).mono ?_; rintro e w3 ⟨rfl, rfl⟩)
        | (go_at_call 32; with_reducible refine (HL1.out _).mono ?_; rintro e w3 ⟨rfl, rfl⟩))
      go_ret
      exact ⟨rfl, HG.out⟩
  · rw [if_neg k2]
    have hk2 : (k == 2) = false := by simpa using k2
    clear k2
    cases q <;> cases ln
    all_goals
      go_enter Tryd.func21, Tryd.ntmps21
      go_wp2_with (first
        | (go_at_call 26; refine (HWd.out _).mono ?_; rintro e w2 ⟨rfl, hg2⟩; obtain ⟨c0, c1, c2⟩ := HC.out _ hg2; have HG := Lib.hid (grown_trans (grown_alloc (grown_refl _ _) _) hg2); clear hg2)
        | (go_at_call 32; with_reducible refine (HL2.out _).mono ?_; rintro e w3 ⟨rfl, rfl⟩))
      go_ret
      exact ⟨rfl, HG.out⟩
set_option maxRecDepth 100000 in
set_option maxHeartbeats 2000000 in
theorem refText9_any (s : Na.Sb) (hr : Na.right s = true) (h1 : s.sp.size ≤ 1000) (h2 : s.nm.size ≤ 1000) (w : World) : Calls Tryd.prog 27 #[Na.val s] w fun e w' => e = .returned (.string (Na.text s)) ∧ w.grownBy w' none := by
  obtain ⟨hk, _, _, h4, h5⟩ := Na.right_facts hr
  have ht := Na.strL_text s
  obtain ⟨T, hT⟩ : ∃ T, T = Na.text s := ⟨_, rfl⟩
  rw [← hT] at ht ⊢
  obtain ⟨k, sp, nm⟩ := s
  simp only at *
  have HWd := Lib.hid (fun W => word_any k ⟨by omega, by omega⟩ W)
  have hws := word_size k
  have z1 : (nm.size : Int) ≤ 8388608 := by omega
  have z2 : (sp.size : Int) ≤ 8388608 := by omega
  unfold Na.val
  by_cases k2 : k = 2
  · subst k2
    rw [if_neg (fun h => h5.1 h rfl)] at ht
    have hTe : T = ⟨#[119, 111, 114, 107, 108, 111, 97, 100, 58]⟩ ++ sp ++ ⟨#[47]⟩ ++ nm := by
      apply Na.strL_eq
      rw [ht, Na.strL_append, Na.strL_append, Na.strL_append]
      have e1 : strL ⟨#[119, 111, 114, 107, 108, 111, 97, 100, 58]⟩ = strL (Na.word 2) ++ [58] := by decide +kernel
      have e2 : strL ⟨#[47]⟩ = [47] := by decide +kernel
      rw [e1, e2]; simp
    have HTe := Lib.hid hTe
    have z3 : 9 + sp.size ≤ 9223372036854775807 := by omega
    have z4 : 9 + sp.size + 1 ≤ 9223372036854775807 := by omega
    have z5 : 9 + sp.size + 1 + nm.size ≤ 9223372036854775807 := by omega
    clear hT ht hTe hr h4 h5 hk hws
    go_enter Tryd.func27, Tryd.ntmps27
    go_wp2
    go_ret
    exact ⟨by rw [HTe.out]; rfl, grown_alloc (grown_refl _ _) _⟩
  · rw [if_pos (h4 k2)] at ht
    have hTe : T = Na.word k ++ ⟨#[58]⟩ ++ nm := by
      apply Na.strL_eq
      rw [ht, Na.strL_append, Na.strL_append]
      have e2 : strL ⟨#[58]⟩ = [58] := by decide +kernel
      rw [e2]; simp
    have HTe := Lib.hid hTe
    have hk2 : (k == 2) = false := by simpa using k2
    have HC : Hid (∀ W, (w.alloc (.cells #[.int .i64 k, .string sp, .string nm] 27)).grownBy W none → W.cell? ⟨w.heap.size, 0, none⟩ = some (.int .i64 k) ∧ W.cell? ⟨w.heap.size, 1, none⟩ = some (.string sp) ∧ W.cell? ⟨w.heap.size, 2, none⟩ = some (.string nm)) := Lib.hid (fun W hg => by
      have hb := hg.block w.heap.size (by rw [alloc_size]; omega) (by simp)
      exact ⟨(World.cell?_of_block hb).trans (cell_blk (alloc_at w _) 0 rfl), (World.cell?_of_block hb).trans (cell_blk (alloc_at w _) 1 rfl), (World.cell?_of_block hb).trans (cell_blk (alloc_at w _) 2 rfl)⟩)
    generalize Na.word k = wk at *
    have hws2 := hws
    have z3 : wk.size + 1 ≤ 9223372036854775807 := by omega
    have z4 : (wk ++ ⟨#[58]⟩ : ByteArray).size + nm.size ≤ 9223372036854775807 := by rw [ByteArray.size_append]; show wk.size + 1 + nm.size ≤ _; omega
    clear hT ht hTe hr h4 h5 hk hws k2
    go_enter Tryd.func27, Tryd.ntmps27
    go_wp2
    have HG1 := Lib.hid (grown_alloc (grown_refl w none) (.cells #[.int .i64 k, .string sp, .string nm] 27))
    generalize (w.alloc (.cells #[.int .i64 k, .string sp, .string nm] 27)) = w1 at *
    refine wp_region_quiet_tail (fun w' => w1.grownBy w' none) 7 (by kernel_rfl) (by kernel_rfl) (grown_drewN (grown_refl _ _) 1) ?_
    simp only [List.take_succ_cons, List.take_zero, List.drop_succ_cons, List.drop_zero]
    refine wpQuiet_same (by rfl) (.pointer (some ⟨w.heap.size, 0, none⟩)) (fun _ _ => by simp [go_sem]) ?_
    simp only [Act.put, List.setIfInBounds_toArray, List.set_cons_succ, List.set_cons_zero]
    refine wpQuiet_same (by rfl) (.int .i64 k) (fun w' hw' => by have := (HC.out w' hw').1; simp [go_sem, this]) ?_
    simp only [Act.put, List.setIfInBounds_toArray, List.set_cons_succ, List.set_cons_zero]
    refine wpQuiet_call (by rfl) 26 #[.int .i64 k] (.string wk) (fun _ => by simp [go_sem]) (fun w' hw' => (HWd.out w').mono (fun e w'' h => ⟨h.1, grown_trans hw' h.2⟩)) ?_
    simp only [Act.put, List.setIfInBounds_toArray, List.set_cons_succ, List.set_cons_zero]
    refine wpQuiet_same (by rfl) (.string (wk ++ ⟨#[58]⟩)) (fun w' hw' => by simp [go_sem]; omega) ?_
    simp only [Act.put, List.setIfInBounds_toArray, List.set_cons_succ, List.set_cons_zero]
    refine wpQuiet_same (by rfl) (.pointer (some ⟨w.heap.size, 2, none⟩)) (fun _ _ => by simp [go_sem]) ?_
    simp only [Act.put, List.setIfInBounds_toArray, List.set_cons_succ, List.set_cons_zero]
    refine wpQuiet_same (by rfl) (.string nm) (fun w' hw' => by have := (HC.out w' hw').2.2; simp [go_sem, this]) ?_
    simp only [Act.put, List.setIfInBounds_toArray, List.set_cons_succ, List.set_cons_zero]
    refine wpQuiet_same (by rfl) (.string (wk ++ ⟨#[58]⟩ ++ nm)) (fun w' hw' => by simp [go_sem]; omega) ?_
    simp only [Act.put, List.setIfInBounds_toArray, List.set_cons_succ, List.set_cons_zero]
    refine wpQuiet_nil ?_
    intro w4 hw4
    have HG4 := Lib.hid (grown_trans HG1.out hw4)
    clear hw4
    go_wp2
    go_ret
    exact ⟨by rw [HTe.out]; rfl, HG4.out⟩
end Go.Proofs.YtepjjgplnmkjgaaDoor
