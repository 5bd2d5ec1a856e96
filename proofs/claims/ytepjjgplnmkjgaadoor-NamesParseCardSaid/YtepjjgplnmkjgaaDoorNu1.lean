/- Package names' Compare, the document's. -/
import Derived.Test.YtepjjgplnmkjgaaDoorNu0
import Derived.Test.YtepjjgplnmkjgaaDoorQTail
import Derived.BigQuiet
import Derived.Laws.Cover1
namespace Go.Proofs.YtepjjgplnmkjgaaDoor
open Go.RowKit
set_option linter.unusedVariables false

set_option maxRecDepth 100000 in
theorem isNaNS_any (x : ByteArray) (w : World) : Calls Tryd.prog 38 #[.string x] w fun e w' => e = .returned (.bool false) ∧ w' = w := by
  go_enter Tryd.func38, Tryd.ntmps38
  go_wp2
  go_ret
  exact ⟨rfl, rfl⟩
set_option maxRecDepth 100000 in
theorem cmpStr_any (x y : ByteArray) (w : World) : Calls Tryd.prog 30 #[.string x, .string y] w fun e w' => e = .returned (.int .i64 (Na.cmpS x y)) ∧ w' = w := by
  have HN := Lib.hid (fun (z : ByteArray) (W : World) => isNaNS_any z W)
  have l1 := Na.less_str x y
  have l2 := Na.less_str y x
  have l3 := Na.eq_str x y
  rw [Na.cmpS_neg x y] at l2
  rcases Na.cmpS_cases x y with h | h | h
  all_goals
    rw [h] at l1 l2 l3 ⊢
    clear h
    simp only [Int.reduceNeg, Int.reduceEq, decide_true, decide_false, Int.neg_neg] at l1 l2 l3
    go_enter Tryd.func30, Tryd.ntmps30
    go_wp2_with (go_at_call 38; refine (HN.out _ _).mono ?_; rintro e w1 ⟨rfl, rfl⟩)
    go_ret
    exact ⟨rfl, rfl⟩
def or3 (x y z : Int) : Int := if x ≠ 0 then x else if y ≠ 0 then y else z
set_option maxRecDepth 100000 in
theorem or3_any (x y z : Int) (b : Nat) (fr : Nat × Nat) (t : TypeId) (w : World) (hb : w.heap[b]? = some (.cells #[.int .i64 x, .int .i64 y, .int .i64 z] t fr)) :
    Calls Tryd.prog 28 #[.slice (some ⟨b, 0, none⟩) 3 3] w fun e w' => e = .returned (.int .i64 (or3 x y z)) ∧ w' = w := by
  have HC : Hid (∀ j : Nat, j < 3 → w.cell? ⟨b, j, none⟩ = some (.int .i64 ([x, y, z].getD j 0))) := Lib.hid (fun j hj => by
    rcases (show j = 0 ∨ j = 1 ∨ j = 2 by omega) with rfl | rfl | rfl
    · exact cell_blk hb 0 rfl
    · exact cell_blk hb 1 rfl
    · exact cell_blk hb 2 rfl)
  obtain ⟨R, hR⟩ : ∃ R, R = or3 x y z := ⟨_, rfl⟩
  rw [← hR]
  unfold or3 at hR
  have H1 : Hid (∀ k, k < 3 → (∀ j, j < k → [x, y, z].getD j 0 = 0) → [x, y, z].getD k 0 ≠ 0 → R = [x, y, z].getD k 0) := Lib.hid (fun k hk h0 h1 => by
    rcases (show k = 0 ∨ k = 1 ∨ k = 2 by omega) with rfl | rfl | rfl
    · rw [hR, if_pos (by simpa using h1)]; rfl
    · have := h0 0 (by omega)
      rw [hR, if_neg (by simpa using this), if_pos (by simpa using h1)]; rfl
    · have e0 := h0 0 (by omega)
      have e1 := h0 1 (by omega)
      rw [hR, if_neg (by simpa using e0), if_neg (by simpa using e1)]; rfl)
  have H2 : Hid ((∀ j, j < 3 → [x, y, z].getD j 0 = 0) → R = 0) := Lib.hid (fun h0 => by
    have e0 := h0 0 (by omega)
    have e1 := h0 1 (by omega)
    have e2 := h0 2 (by omega)
    rw [hR, if_neg (by simpa using e0), if_neg (by simpa using e1)]
    simpa using e2)
  generalize [x, y, z] = L at *
  clear hR hb
  go_enter Tryd.func28, Tryd.ntmps28
  go_wp2
  go_loopw [8, 5] (fun i _ wr => ∃ k : Nat, k ≤ 3 ∧ i = .int .i64 (k : Int) ∧ wr = w ∧ ∀ j, j < k → L.getD j 0 = 0) (fun i _ _ => 3 - (intOf i).toNat)
  case atStart => exact ⟨0, by omega, rfl, rfl, fun j hj => absurd hj (Nat.not_lt_zero _)⟩
  case round =>
    obtain ⟨k, hk, rfl, rfl, h0⟩ := hrel
    have H0 := Lib.hid h0
    clear h0
    by_cases hk3 : k < 3
    · have ck := HC.out k hk3
      by_cases hz : L.getD k 0 = 0
      · have HN : Hid (∀ j, j < k + 1 → L.getD j 0 = 0) := Lib.hid (fun j hj => by
          rcases Nat.lt_or_ge j k with h | h
          · exact H0.out j h
          · obtain rfl : j = k := by omega
            exact hz)
        rw [hz] at ck
        clear hz
        go_wp2
        go_roundw
        case rel => exact ⟨k + 1, by omega, by go_num, trivial, HN.out⟩
        case measure => simp [intOf]; omega
      · have HRk : Hid (R = L.getD k 0) := Lib.hid (H1.out k hk3 H0.out hz)
        generalize L.getD k 0 = v at *
        have hz' : (v != 0) = true := by simpa using hz
        go_wp2
        go_ret
        exact ⟨by rw [HRk.out]; rfl, rfl⟩
    · obtain rfl : k = 3 := by omega
      have HR0 : Hid (R = 0) := Lib.hid (H2.out H0.out)
      go_wp2
      go_ret
      exact ⟨by rw [HR0.out]; rfl, rfl⟩
set_option maxRecDepth 100000 in
set_option maxHeartbeats 2000000 in
theorem compare_any (a b : Na.Sb) (w : World) : Calls Tryd.prog 12 #[Na.val a, Na.val b] w fun e w' => e = .returned (.int .i64 (Na.cmp a b)) ∧ w.grownBy w' none := by
  obtain ⟨k1, s1, n1⟩ := a
  obtain ⟨k2, s2, n2⟩ := b
  have HI := Lib.hid (fun W => cmpInt_any k1 k2 W)
  have HS := Lib.hid (fun W => cmpStr_any s1 s2 W)
  have HNm := Lib.hid (fun W => cmpStr_any n1 n2 W)
  have HO := Lib.hid or3_any
  have hR : Na.cmp ⟨k1, s1, n1⟩ ⟨k2, s2, n2⟩ = or3 (cmpI k1 k2) (Na.cmpS s1 s2) (Na.cmpS n1 n2) := rfl
  rw [hR]
  clear hR
  unfold Na.val
  generalize cmpI k1 k2 = x at *
  generalize Na.cmpS s1 s2 = y at *
  generalize Na.cmpS n1 n2 = z at *
  go_enter Tryd.func12, Tryd.ntmps12
  go_wp2
  have h0 : ((w.alloc (.cells #[.int .i64 k1, .string s1, .string n1] 27)).alloc (.cells #[.int .i64 k2, .string s2, .string n2] 27)).heap[w.heap.size]? = some (.cells #[.int .i64 k1, .string s1, .string n1] 27 (0, 0)) := alloc_keep (alloc_at w _)
  obtain ⟨W1, hW1⟩ : ∃ W1, W1 = (w.alloc (.cells #[.int .i64 k1, .string s1, .string n1] 27)).alloc (.cells #[.int .i64 k2, .string s2, .string n2] 27) := ⟨_, rfl⟩
  have HG1 : Hid (w.grownBy W1 none) := Lib.hid (by rw [hW1]; exact grown_alloc (grown_alloc (grown_refl _ _) _) _)
  have b1 : W1.heap[w.heap.size]? = some (.cells #[.int .i64 k1, .string s1, .string n1] 27 (0, 0)) := by rw [hW1]; exact h0
  have b2 : W1.heap[w.heap.size + 1]? = some (.cells #[.int .i64 k2, .string s2, .string n2] 27 (0, 0)) := by rw [hW1]; exact alloc_at2 w _ _
  rw [← hW1]
  have p0 := cell_blk b1 0 rfl
  have p1 := cell_blk b1 1 rfl
  have p2 := cell_blk b1 2 rfl
  have q0 := cell_blk b2 0 rfl
  have q1 := cell_blk b2 1 rfl
  have q2 := cell_blk b2 2 rfl
  clear hW1 h0 b1 b2
  refine wp_region_quiet_tail (fun w' => ∃ n, w' = W1.drewN n) 15 (by kernel_rfl) (by kernel_rfl) ⟨1, rfl⟩ ?_
  simp only [List.take_succ_cons, List.take_zero, List.drop_succ_cons, List.drop_zero]
  iterate 4 (go_big_quiet_step (fail))
  refine wpQuiet_call (by rfl) 29 #[.int .i64 k1, .int .i64 k2] (.int .i64 x) (fun _ => by simp [go_sem]) (fun w' hw' => (HI.out w').mono (fun e w'' h => ⟨h.1, by rw [h.2]; exact hw'⟩)) ?_
  simp only [Act.put, List.setIfInBounds_toArray, List.set_cons_succ, List.set_cons_zero]
  iterate 4 (go_big_quiet_step (fail))
  refine wpQuiet_call (by rfl) 30 #[.string s1, .string s2] (.int .i64 y) (fun _ => by simp [go_sem]) (fun w' hw' => (HS.out w').mono (fun e w'' h => ⟨h.1, by rw [h.2]; exact hw'⟩)) ?_
  simp only [Act.put, List.setIfInBounds_toArray, List.set_cons_succ, List.set_cons_zero]
  iterate 4 (go_big_quiet_step (fail))
  refine wpQuiet_call (by rfl) 30 #[.string n1, .string n2] (.int .i64 z) (fun _ => by simp [go_sem]) (fun w' hw' => (HNm.out w').mono (fun e w'' h => ⟨h.1, by rw [h.2]; exact hw'⟩)) ?_
  simp only [Act.put, List.setIfInBounds_toArray, List.set_cons_succ, List.set_cons_zero]
  refine wpQuiet_nil ?_
  rintro _ ⟨n3, rfl⟩
  obtain ⟨W2, hW2⟩ : ∃ W2, W2 = W1.drewN n3 := ⟨_, rfl⟩
  have HG2 : Hid (w.grownBy W2 none) := Lib.hid (by rw [hW2]; exact grown_drewN HG1.out _)
  rw [← hW2]
  clear hW2 p0 p1 p2 q0 q1 q2 HG1
  have HOr := Lib.hid (HO.out x y z W2.heap.size (0, 0) 3 (W2.alloc (.cells #[.int .i64 x, .int .i64 y, .int .i64 z] 3)) (alloc_at W2 _))
  go_wp2_with (go_at_call 28; refine HOr.out.mono ?_; rintro e w3 ⟨rfl, rfl⟩)
  go_ret
  exact ⟨rfl, grown_alloc HG2.out _⟩
end Go.Proofs.YtepjjgplnmkjgaaDoor
