/- Package names' Right and Text; the laws' alive and long. -/
import Derived.Test.YtepjjgplnmkjgaaDoorNu2
namespace Go.Proofs.YtepjjgplnmkjgaaDoor
open Go.RowKit
set_option linter.unusedVariables false

/-- The table of the kinds' words. -/
def Words (w : World) : Prop := ∀ k : Nat, k < 6 → w.cell? ⟨28, k, none⟩ = some (.string (Na.word k))
theorem Words.grown {w w' : World} (h : Words w) (hg : w.grownBy w' none) : Words w' := fun k hk =>
  (World.cell?_of_block (hg.block _ (World.block_lt_of_cell? w _ (h k hk)) (by simp))).trans (h k hk)
theorem emp_str (s : ByteArray) : s.toList.isEmpty = decide (s = ⟨#[]⟩) := by
  rw [Bool.eq_iff_iff, List.isEmpty_iff, decide_eq_true_eq]
  exact ⟨fun h => Na.toList_inj (h.trans (by decide +kernel)), fun h => by rw [h]; decide +kernel⟩
set_option maxRecDepth 100000 in
set_option maxHeartbeats 2000000 in
theorem right_any (s : Na.Sb) (h1 : s.sp.size ≤ 1000) (h2 : s.nm.size ≤ 1000) (w : World) : Calls Tryd.prog 25 #[Na.val s] w fun e w' => e = .returned (.bool (Na.right s)) ∧ w.grownBy w' none := by
  obtain ⟨k, sp, nm⟩ := s
  have HL1 := Lib.hid (fun W => label_any W sp W h1 (grown_refl _ _))
  have HL2 := Lib.hid (fun W => label_any W nm W h2 (grown_refl _ _))
  have he := emp_str sp
  unfold Na.val Na.right
  simp only
  generalize Pt.label (strL nm) = ln at *
  generalize Pt.label (strL sp) = ls at *
  clear h1 h2
  generalize hd : decide (sp = ⟨#[]⟩) = ds at *
  clear hd
  by_cases k1 : k < 1
  · rw [decide_eq_false (p := 1 ≤ k ∧ k ≤ 5) (by omega), Bool.false_and]
    clear he
    go_enter Tryd.func25, Tryd.ntmps25
    go_wp2
    go_ret
    exact ⟨rfl, grown_alloc (grown_refl _ _) _⟩
  by_cases k5 : 5 < k
  · rw [decide_eq_false (p := 1 ≤ k ∧ k ≤ 5) (by omega), Bool.false_and]
    clear he
    go_enter Tryd.func25, Tryd.ntmps25
    go_wp2
    go_ret
    exact ⟨rfl, grown_alloc (grown_refl _ _) _⟩
  rw [decide_eq_true (p := 1 ≤ k ∧ k ≤ 5) (by omega), Bool.true_and]
  cases ln with
  | false =>
    rw [Bool.false_and]
    clear he
    go_enter Tryd.func25, Tryd.ntmps25
    go_wp2_with (go_at_call 36; refine (HL2.out _).mono ?_; rintro e w2 ⟨hg2, rfl⟩; have HG2 := Lib.hid (grown_trans (grown_alloc (grown_refl _ _) _) hg2); clear hg2)
    go_ret
    exact ⟨rfl, HG2.out⟩
  | true =>
    rw [Bool.true_and]
    by_cases k2 : k = 2
    · subst k2
      rw [if_pos rfl]
      clear he
      have HC : Hid (∀ W, (w.alloc (.cells #[.int .i64 2, .string sp, .string nm] 27)).grownBy W none → W.cell? ⟨w.heap.size, 0, none⟩ = some (.int .i64 2) ∧ W.cell? ⟨w.heap.size, 1, none⟩ = some (.string sp)) := Lib.hid (fun W hg => by
        have hb := hg.block w.heap.size (by rw [alloc_size]; omega) (by simp)
        exact ⟨(World.cell?_of_block hb).trans (cell_blk (alloc_at w _) 0 rfl), (World.cell?_of_block hb).trans (cell_blk (alloc_at w _) 1 rfl)⟩)
      go_enter Tryd.func25, Tryd.ntmps25
      go_wp2_with (first
        | (go_at_call 36; with_reducible refine (HL2.out _).mono ?_; rintro e w2 ⟨hg2, rfl⟩; obtain ⟨c0, c1⟩ := HC.out _ hg2; have HG2 := Lib.hid (grown_trans (grown_alloc (grown_refl _ _) _) hg2); clear hg2)
        | (go_at_call 36; with_reducible refine (HL1.out _).mono ?_; rintro e w3 ⟨hg3, rfl⟩; have HG3 := Lib.hid (grown_trans HG2.out hg3); clear hg3))
      go_ret
      exact ⟨rfl, HG3.out⟩
    · rw [if_neg k2]
      have hk2 : (k == 2) = false := by simpa using k2
      have HC : Hid (∀ W, (w.alloc (.cells #[.int .i64 k, .string sp, .string nm] 27)).grownBy W none → W.cell? ⟨w.heap.size, 0, none⟩ = some (.int .i64 k) ∧ W.cell? ⟨w.heap.size, 1, none⟩ = some (.string sp)) := Lib.hid (fun W hg => by
        have hb := hg.block w.heap.size (by rw [alloc_size]; omega) (by simp)
        exact ⟨(World.cell?_of_block hb).trans (cell_blk (alloc_at w _) 0 rfl), (World.cell?_of_block hb).trans (cell_blk (alloc_at w _) 1 rfl)⟩)
      clear k2
      go_enter Tryd.func25, Tryd.ntmps25
      go_wp2_with (go_at_call 36; refine (HL2.out _).mono ?_; rintro e w2 ⟨hg2, rfl⟩; obtain ⟨c0, c1⟩ := HC.out _ hg2; have HG2 := Lib.hid (grown_trans (grown_alloc (grown_refl _ _) _) hg2); clear hg2)
      go_ret
      exact ⟨rfl, HG2.out⟩
/-- A subject's text. -/
def Na.text (s : Na.Sb) : ByteArray := Na.word s.k ++ ⟨#[58]⟩ ++ (if s.sp = ⟨#[]⟩ then s.nm else s.sp ++ ⟨#[47]⟩ ++ s.nm)
theorem word_size (k : Int) : (Na.word k).size ≤ 8 := by
  unfold Na.word
  repeat' split
  all_goals decide
set_option maxRecDepth 100000 in
set_option maxHeartbeats 2000000 in
theorem text_ok (s : Na.Sb) (h1 : s.sp.size ≤ 1000) (h2 : s.nm.size ≤ 1000) (hr : Na.right s = true) (w : World) (hW : Words w) : Calls Tryd.prog 14 #[Na.val s] w fun e w' => e = .returned (.tuple #[.string (Na.text s), .nilIface]) ∧ w.grownBy w' none := by
  have HR := Lib.hid (fun W => right_any s h1 h2 W)
  have hk : 1 ≤ s.k ∧ s.k ≤ 5 := by
    unfold Na.right at hr
    rw [Bool.and_eq_true, decide_eq_true_eq] at hr
    exact hr.1
  rw [hr] at HR
  obtain ⟨R, hR⟩ : ∃ R, R = Na.text s := ⟨_, rfl⟩
  rw [← hR]
  unfold Na.text at hR
  obtain ⟨k, sp, nm⟩ := s
  simp only at *
  obtain ⟨n, rfl⟩ : ∃ n : Nat, k = n := ⟨k.toNat, by omega⟩
  have hws := word_size n
  have he := emp_str sp
  unfold Na.val at *
  generalize hwd : Na.word (n : Int) = wd at *
  have HC : Hid (∀ W, (w.alloc (.cells #[.int .i64 n, .string sp, .string nm] 27)).grownBy W none → W.cell? ⟨w.heap.size, 0, none⟩ = some (.int .i64 n) ∧ W.cell? ⟨w.heap.size, 1, none⟩ = some (.string sp) ∧ W.cell? ⟨w.heap.size, 2, none⟩ = some (.string nm) ∧ W.cell? ⟨28, n, none⟩ = some (.string wd)) := Lib.hid (fun W hg => by
    have hb := hg.block w.heap.size (by rw [alloc_size]; omega) (by simp)
    refine ⟨(World.cell?_of_block hb).trans (cell_blk (alloc_at w _) 0 rfl), (World.cell?_of_block hb).trans (cell_blk (alloc_at w _) 1 rfl), (World.cell?_of_block hb).trans (cell_blk (alloc_at w _) 2 rfl), ?_⟩
    rw [← hwd]
    exact (hW.grown (grown_alloc (grown_refl _ _) _)).grown hg n (by omega))
  have k0 : (0 : Int) ≤ (n : Int) := by omega
  have k6 : (n : Int) < 6 := by omega
  have z0 : (wd.size : Int) ≤ 8388608 := by omega
  have z1 : (nm.size : Int) ≤ 8388608 := by omega
  have z2 : (sp.size : Int) ≤ 8388608 := by omega
  have z3 : wd.size + 1 ≤ 9223372036854775807 := by omega
  have z4 : wd.size + 1 + nm.size ≤ 9223372036854775807 := by omega
  by_cases hs : sp = ⟨#[]⟩
  · rw [if_pos hs] at hR
    rw [decide_eq_true hs] at he
    have HRs := Lib.hid hR
    clear hR hs hr hk hW h1 h2 hwd hws
    go_enter Tryd.func14, Tryd.ntmps14
    go_wp2_with (go_at_call 25; refine (HR.out _).mono ?_; rintro e w2 ⟨rfl, hg2⟩; obtain ⟨c0, c1, c2, c3⟩ := HC.out _ (grown_trans (grown_refl _ _) hg2); have HG2 := Lib.hid (grown_trans (grown_alloc (grown_refl _ _) _) hg2); clear hg2)
    go_ret2
    exact ⟨by rw [HRs.out]; rfl, HG2.out⟩
  · rw [if_neg hs] at hR
    rw [decide_eq_false hs] at he
    have HRs := Lib.hid hR
    have z5 : sp.size + 1 ≤ 9223372036854775807 := by omega
    have z6 : sp.size + 1 + nm.size ≤ 9223372036854775807 := by omega
    have z7 : (sp ++ ⟨#[47]⟩ : ByteArray).size = sp.size + 1 := by rw [ByteArray.size_append]; rfl
    have z8 : (sp ++ ⟨#[47]⟩ ++ nm : ByteArray).size = sp.size + 1 + nm.size := by rw [ByteArray.size_append, ByteArray.size_append]; rfl
    have z9 : (wd ++ ⟨#[58]⟩ : ByteArray).size = wd.size + 1 := by rw [ByteArray.size_append]; rfl
    clear hR hs hr hk hW hwd
    go_enter Tryd.func14, Tryd.ntmps14
    go_wp2_with (go_at_call 25; refine (HR.out _).mono ?_; rintro e w2 ⟨rfl, hg2⟩; obtain ⟨c0, c1, c2, c3⟩ := HC.out _ (grown_trans (grown_refl _ _) hg2); have HG2 := Lib.hid (grown_trans (grown_alloc (grown_refl _ _) _) hg2); clear hg2)
    go_ret2
    exact ⟨by rw [HRs.out]; rfl, HG2.out⟩
theorem shopweb_right : Na.right ⟨2, ⟨#[115, 104, 111, 112]⟩, ⟨#[119, 101, 98]⟩⟩ = true := by decide +kernel
theorem shopweb_text : Na.text ⟨2, ⟨#[115, 104, 111, 112]⟩, ⟨#[119, 101, 98]⟩⟩ = ⟨#[119, 111, 114, 107, 108, 111, 97, 100, 58, 115, 104, 111, 112, 47, 119, 101, 98]⟩ := by decide +kernel
set_option maxRecDepth 100000 in
theorem alive9_any (w : World) (hW : Words w) : Calls Tryd.prog 5 #[] w fun e w' => e = .returned (.bool true) ∧ w.grownBy w' none := by
  have HT := Lib.hid (text_ok ⟨2, ⟨#[115, 104, 111, 112]⟩, ⟨#[119, 101, 98]⟩⟩ (by decide) (by decide) shopweb_right w hW)
  rw [shopweb_text] at HT
  unfold Na.val at HT
  go_enter Tryd.func5, Tryd.ntmps5
  go_wp2_with (go_at_call 14; refine HT.out.mono ?_; rintro e w2 ⟨rfl, hg2⟩; have HG2 := Lib.hid hg2; clear hg2)
  go_ret
  exact ⟨retB7 (by decide +kernel), HG2.out⟩
def Na.lng (s : Na.Sb) : Bool := decide (200 < s.sp.size) || decide (200 < s.nm.size)
set_option maxRecDepth 100000 in
theorem long9_any (s : Na.Sb) (w : World) : Calls Tryd.prog 11 #[Na.val s] w fun e w' => e = .returned (.bool (Na.lng s)) ∧ w.grownBy w' none := by
  obtain ⟨k, sp, nm⟩ := s
  unfold Na.lng Na.val
  simp only
  go_enter Tryd.func11, Tryd.ntmps11
  go_wp2
  all_goals
    go_ret
    exact ⟨retB7 (by rw [Bool.eq_iff_iff]; simp; omega), grown_alloc (grown_refl _ _) _⟩
end Go.Proofs.YtepjjgplnmkjgaaDoor
