/- The walk of the law NamesOrder. -/
import Derived.Test.YtepjjgplnmkjgaaDoorNu3
import Derived.Test.YtepjjgplnmkjgaaDoorNt0
namespace Go.Proofs.YtepjjgplnmkjgaaDoor
open Go.RowKit
set_option linter.unusedVariables false

set_option maxRecDepth 100000 in
set_option maxHeartbeats 4000000 in
theorem namesOrder_any (a b c : Na.Sb) (w : World) (hW : Words w) : Calls Tryd.prog 4 #[Na.val a, Na.val b, Na.val c] w fun e w' => e = .returned (.bool true) ∧ w.grownBy w' none := by
  have HAl := Lib.hid (fun W hg => alive9_any W (hW.grown (w' := W) hg))
  have HLa := Lib.hid (fun W => long9_any a W)
  have HLb := Lib.hid (fun W => long9_any b W)
  have HLc := Lib.hid (fun W => long9_any c W)
  have HAB := Lib.hid (fun W => compare_any a b W)
  have HBA := Lib.hid (fun W => compare_any b a W)
  have HBC := Lib.hid (fun W => compare_any b c W)
  have HAC := Lib.hid (fun W => compare_any a c W)
  have HRf := Lib.hid (fun W => refCompare_any a b W)
  have hz := @Na.cmp_zero a b
  have hn := Na.cmp_neg a b
  have ht := @Na.cmp_trans a b c
  have hab0 : Na.cmp a b = -1 ∨ Na.cmp a b = 0 ∨ Na.cmp a b = 1 := Na.cmp_cases a b
  generalize Na.cmp a b = ab at *
  generalize Na.cmp b a = ba at *
  generalize Na.cmp b c = bc at *
  generalize Na.cmp a c = ac at *
  generalize Na.lng a = la at *
  generalize Na.lng b = lb at *
  generalize Na.lng c = lc at *
  obtain ⟨ka, sa, na⟩ := a
  obtain ⟨kb, sb, nb⟩ := b
  obtain ⟨kc, sc, nc⟩ := c
  unfold Na.val at *
  have hab := hab0
  have HZ := Lib.hid hz
  have HN := Lib.hid hn
  have HT := Lib.hid ht
  clear hz hn ht hW
  have HC : Hid (∀ W, (((w.alloc (.cells #[.int .i64 ka, .string sa, .string na] 27)).alloc (.cells #[.int .i64 kb, .string sb, .string nb] 27)).alloc (.cells #[.int .i64 kc, .string sc, .string nc] 27)).grownBy W none →
      W.heap[w.heap.size]? = some (.cells #[.int .i64 ka, .string sa, .string na] 27 (0, 0)) ∧ W.heap[w.heap.size + 1]? = some (.cells #[.int .i64 kb, .string sb, .string nb] 27 (0, 0)) ∧ W.heap[w.heap.size + 1 + 1]? = some (.cells #[.int .i64 kc, .string sc, .string nc] 27 (0, 0))) := Lib.hid (fun W hg => by
    refine ⟨?_, ?_, ?_⟩
    · rw [hg.block _ (by rw [alloc_size, alloc_size, alloc_size]; omega) (by simp)]; exact alloc_keep (alloc_keep (alloc_at w _))
    · rw [hg.block _ (by rw [alloc_size, alloc_size, alloc_size]; omega) (by simp)]; exact alloc_keep (alloc_at2 w _ _)
    · rw [hg.block _ (by rw [alloc_size, alloc_size, alloc_size]; omega) (by simp)]
      have := alloc_at2 (w.alloc (.cells #[.int .i64 ka, .string sa, .string na] 27)) (.cells #[.int .i64 kb, .string sb, .string nb] 27) (.cells #[.int .i64 kc, .string sc, .string nc] 27)
      rw [alloc_size] at this
      exact this)
  have HW3 : Hid (w.grownBy (((w.alloc (.cells #[.int .i64 ka, .string sa, .string na] 27)).alloc (.cells #[.int .i64 kb, .string sb, .string nb] 27)).alloc (.cells #[.int .i64 kc, .string sc, .string nc] 27)) none) := Lib.hid (grown_alloc (grown_alloc (grown_alloc (grown_refl _ _) _) _) _)
  have hI : (Tryd.prog.info? 27).map (·.size) = some 3 := by kernel_rfl
  by_cases hlong : la = true ∨ lb = true ∨ lc = true
  · have hcs : la = true ∨ (la = false ∧ lb = true) ∨ (la = false ∧ lb = false ∧ lc = true) := by
      cases la <;> cases lb <;> cases lc <;> simp_all
    clear hlong HZ HN HT HAB HBA HBC HAC HRf
    rcases hcs with rfl | ⟨rfl, rfl⟩ | ⟨rfl, rfl, rfl⟩
    all_goals
      go_enter Tryd.func4, Tryd.ntmps4
      go_wp2_with (first
        | (go_at_call 5; refine (HAl.out _ HW3.out).mono ?_; rintro e w1 ⟨rfl, hg1⟩; have HB := Lib.hid (HC.out _ hg1); have HG := Lib.hid hg1; clear hg1)
        | (refine wpList_load_rowG (by rfl) 27 (.tmp 3) (by rfl) (w.heap.size) (by rfl) 27 #[.int .i64 ka, .string sa, .string na] (0, 0) _ HB.out.1 Tryd.underlying27 rfl hI ?_)
        | (refine wpList_load_rowG (by rfl) 27 (.tmp 4) (by rfl) (w.heap.size + 1) (by rfl) 27 #[.int .i64 kb, .string sb, .string nb] (0, 0) _ HB.out.2.1 Tryd.underlying27 rfl hI ?_)
        | (refine wpList_load_rowG (by rfl) 27 (.tmp 5) (by rfl) (w.heap.size + 1 + 1) (by rfl) 27 #[.int .i64 kc, .string sc, .string nc] (0, 0) _ HB.out.2.2 Tryd.underlying27 rfl hI ?_)
        | (go_at_call 11; with_reducible refine (HLa.out _).mono ?_; rintro e w2 ⟨rfl, hg2⟩; have hg := grown_trans HG.out hg2; have HB := Lib.hid (HC.out _ hg); have HG := Lib.hid hg; clear hg2 hg)
        | (go_at_call 11; with_reducible refine (HLb.out _).mono ?_; rintro e w2 ⟨rfl, hg2⟩; have hg := grown_trans HG.out hg2; have HB := Lib.hid (HC.out _ hg); have HG := Lib.hid hg; clear hg2 hg)
        | (go_at_call 11; with_reducible refine (HLc.out _).mono ?_; rintro e w2 ⟨rfl, hg2⟩; have hg := grown_trans HG.out hg2; have HB := Lib.hid (HC.out _ hg); have HG := Lib.hid hg; clear hg2 hg))
      go_ret
      exact ⟨rfl, grown_trans HW3.out HG.out⟩
  · obtain ⟨rfl, rfl, rfl⟩ : la = false ∧ lb = false ∧ lc = false := by
      cases la <;> cases lb <;> cases lc <;> simp_all
    clear hlong
    go_enter Tryd.func4, Tryd.ntmps4
    go_wp2_with (first
      | (go_at_call 5; refine (HAl.out _ HW3.out).mono ?_; rintro e w1 ⟨rfl, hg1⟩; have HB := Lib.hid (HC.out _ hg1); have HG := Lib.hid hg1; clear hg1)
      | (refine wpList_load_rowG (by rfl) 27 (.tmp 3) (by rfl) (w.heap.size) (by rfl) 27 #[.int .i64 ka, .string sa, .string na] (0, 0) _ HB.out.1 Tryd.underlying27 rfl hI ?_)
      | (refine wpList_load_rowG (by rfl) 27 (.tmp 4) (by rfl) (w.heap.size + 1) (by rfl) 27 #[.int .i64 kb, .string sb, .string nb] (0, 0) _ HB.out.2.1 Tryd.underlying27 rfl hI ?_)
      | (refine wpList_load_rowG (by rfl) 27 (.tmp 5) (by rfl) (w.heap.size + 1 + 1) (by rfl) 27 #[.int .i64 kc, .string sc, .string nc] (0, 0) _ HB.out.2.2 Tryd.underlying27 rfl hI ?_)
      | (go_at_call 11; with_reducible refine (HLa.out _).mono ?_; rintro e w2 ⟨rfl, hg2⟩; have hg := grown_trans HG.out hg2; have HB := Lib.hid (HC.out _ hg); have HG := Lib.hid hg; clear hg2 hg)
      | (go_at_call 11; with_reducible refine (HLb.out _).mono ?_; rintro e w2 ⟨rfl, hg2⟩; have hg := grown_trans HG.out hg2; have HB := Lib.hid (HC.out _ hg); have HG := Lib.hid hg; clear hg2 hg)
      | (go_at_call 11; with_reducible refine (HLc.out _).mono ?_; rintro e w2 ⟨rfl, hg2⟩; have hg := grown_trans HG.out hg2; have HB := Lib.hid (HC.out _ hg); have HG := Lib.hid hg; clear hg2 hg))
    have HQ : Hid (∀ (W : World) (g : Nat) (cs : Array Value), W.heap[g]? = some (.cells cs 27 (0, 0)) → W.rangeAt g 0 cs.toList) := Lib.hid (fun W g cs h => range_all h)
    refine wp_region_quiet_tail (fun w' => w2.grownBy w' none) 9 (by kernel_rfl) (by kernel_rfl) (grown_drewN (grown_refl _ _) 1) ?_
    simp only [List.take_succ_cons, List.take_zero, List.drop_succ_cons, List.drop_zero]
    refine wpQuiet_load_mid (by rfl) 27 (.tmp 3) (by rfl) w.heap.size 0 (by rfl) [.int .i64 ka, .string sa, .string na] _ (fun w' hw' => HQ.out _ _ _ (HC.out _ (grown_trans HG.out hw')).1) Tryd.underlying27 (by rfl) hI ?_
    simp only [Act.put, List.setIfInBounds_toArray, List.set_cons_succ, List.set_cons_zero]
    refine wpQuiet_load_mid (by rfl) 27 (.tmp 4) (by rfl) (w.heap.size + 1) 0 (by rfl) [.int .i64 kb, .string sb, .string nb] _ (fun w' hw' => HQ.out _ _ _ (HC.out _ (grown_trans HG.out hw')).2.1) Tryd.underlying27 (by rfl) hI ?_
    simp only [Act.put, List.setIfInBounds_toArray, List.set_cons_succ, List.set_cons_zero]
    refine wpQuiet_call (by rfl) 12 #[.agg #[.int .i64 ka, .string sa, .string na], .agg #[.int .i64 kb, .string sb, .string nb]] (.int .i64 ab) (fun _ => by simp [go_sem]) (fun w' hw' => (HAB.out w').mono (fun e w'' h => ⟨h.1, grown_trans hw' h.2⟩)) ?_
    simp only [Act.put, List.setIfInBounds_toArray, List.set_cons_succ, List.set_cons_zero]
    refine wpQuiet_load_mid (by rfl) 27 (.tmp 4) (by rfl) (w.heap.size + 1) 0 (by rfl) [.int .i64 kb, .string sb, .string nb] _ (fun w' hw' => HQ.out _ _ _ (HC.out _ (grown_trans HG.out hw')).2.1) Tryd.underlying27 (by rfl) hI ?_
    simp only [Act.put, List.setIfInBounds_toArray, List.set_cons_succ, List.set_cons_zero]
    refine wpQuiet_load_mid (by rfl) 27 (.tmp 5) (by rfl) (w.heap.size + 1 + 1) 0 (by rfl) [.int .i64 kc, .string sc, .string nc] _ (fun w' hw' => HQ.out _ _ _ (HC.out _ (grown_trans HG.out hw')).2.2) Tryd.underlying27 (by rfl) hI ?_
    simp only [Act.put, List.setIfInBounds_toArray, List.set_cons_succ, List.set_cons_zero]
    refine wpQuiet_call (by rfl) 12 #[.agg #[.int .i64 kb, .string sb, .string nb], .agg #[.int .i64 kc, .string sc, .string nc]] (.int .i64 bc) (fun _ => by simp [go_sem]) (fun w' hw' => (HBC.out w').mono (fun e w'' h => ⟨h.1, grown_trans hw' h.2⟩)) ?_
    simp only [Act.put, List.setIfInBounds_toArray, List.set_cons_succ, List.set_cons_zero]
    refine wpQuiet_load_mid (by rfl) 27 (.tmp 3) (by rfl) w.heap.size 0 (by rfl) [.int .i64 ka, .string sa, .string na] _ (fun w' hw' => HQ.out _ _ _ (HC.out _ (grown_trans HG.out hw')).1) Tryd.underlying27 (by rfl) hI ?_
    simp only [Act.put, List.setIfInBounds_toArray, List.set_cons_succ, List.set_cons_zero]
    refine wpQuiet_load_mid (by rfl) 27 (.tmp 5) (by rfl) (w.heap.size + 1 + 1) 0 (by rfl) [.int .i64 kc, .string sc, .string nc] _ (fun w' hw' => HQ.out _ _ _ (HC.out _ (grown_trans HG.out hw')).2.2) Tryd.underlying27 (by rfl) hI ?_
    simp only [Act.put, List.setIfInBounds_toArray, List.set_cons_succ, List.set_cons_zero]
    refine wpQuiet_call (by rfl) 12 #[.agg #[.int .i64 ka, .string sa, .string na], .agg #[.int .i64 kc, .string sc, .string nc]] (.int .i64 ac) (fun _ => by simp [go_sem]) (fun w' hw' => (HAC.out w').mono (fun e w'' h => ⟨h.1, grown_trans hw' h.2⟩)) ?_
    simp only [Act.put, List.setIfInBounds_toArray, List.set_cons_succ, List.set_cons_zero]
    refine wpQuiet_nil ?_
    intro w4 hw4
    have hg4 := grown_trans HG.out hw4
    have HB := Lib.hid (HC.out _ hg4)
    have HG := Lib.hid hg4
    clear hw4 hg4
    have hne : ab ≠ 0 → (decide (ka = kb) && (decide (sa = sb) && decide (na = nb))) = false := fun h => by
      cases hq : (decide (ka = kb) && (decide (sa = sb) && decide (na = nb))) with
      | false => rfl
      | true =>
        simp only [Bool.and_eq_true, decide_eq_true_eq] at hq
        exact absurd (HZ.out.2 (by rw [hq.1, hq.2.1, hq.2.2])) h
    have heq : ab = 0 → (decide (ka = kb) && (decide (sa = sb) && decide (na = nb))) = true := fun h => by
      have := HZ.out.1 h
      simp only [Na.Sb.mk.injEq] at this
      simp [this]
    have HS := Lib.hid (fun x y W => eqSb x y ka kb sa sb na nb W)
    generalize (decide (ka = kb) && (decide (sa = sb) && decide (na = nb))) = q at *
    obtain ⟨rfl⟩ : ba = -ab := HN.out
    clear HZ
    rcases hab with rfl | rfl | rfl
    · obtain rfl := hne (by decide)
      rcases Int.lt_or_le 0 bc with hb | hb
      · have hb' : ¬ bc ≤ 0 := by omega
        go_wp2_with (first
          | (refine wpList_load_rowG (by rfl) 27 (.tmp 3) (by rfl) (w.heap.size) (by rfl) 27 #[.int .i64 ka, .string sa, .string na] (0, 0) _ HB.out.1 Tryd.underlying27 rfl hI ?_)
          | (refine wpList_load_rowG (by rfl) 27 (.tmp 4) (by rfl) (w.heap.size + 1) (by rfl) 27 #[.int .i64 kb, .string sb, .string nb] (0, 0) _ HB.out.2.1 Tryd.underlying27 rfl hI ?_)
          | (refine wpList_load_rowG (by rfl) 27 (.tmp 5) (by rfl) (w.heap.size + 1 + 1) (by rfl) 27 #[.int .i64 kc, .string sc, .string nc] (0, 0) _ HB.out.2.2 Tryd.underlying27 rfl hI ?_)
          | (go_at_call 13; with_reducible refine (HRf.out _).mono ?_; rintro e w5 ⟨rfl, hg2⟩; have hg := grown_trans HG.out hg2; have HB := Lib.hid (HC.out _ hg); have HG := Lib.hid hg; clear hg2 hg)
          | (go_at_call 12; with_reducible refine (HBA.out _).mono ?_; rintro e w6 ⟨rfl, hg2⟩; have hg := grown_trans HG.out hg2; have HB := Lib.hid (HC.out _ hg); have HG := Lib.hid hg; clear hg2 hg)
          | (refine wpList_cmpG (by rfl) _ (eqSb_val (by rfl) (by rfl) (by rfl) (HS.out _ _ _)) ?_))
        go_ret
        exact ⟨retB7 (by simp [hb]), grown_trans HW3.out HG.out⟩
      · have hac := HT.out (by decide) hb
        go_wp2_with (first
          | (refine wpList_load_rowG (by rfl) 27 (.tmp 3) (by rfl) (w.heap.size) (by rfl) 27 #[.int .i64 ka, .string sa, .string na] (0, 0) _ HB.out.1 Tryd.underlying27 rfl hI ?_)
          | (refine wpList_load_rowG (by rfl) 27 (.tmp 4) (by rfl) (w.heap.size + 1) (by rfl) 27 #[.int .i64 kb, .string sb, .string nb] (0, 0) _ HB.out.2.1 Tryd.underlying27 rfl hI ?_)
          | (refine wpList_load_rowG (by rfl) 27 (.tmp 5) (by rfl) (w.heap.size + 1 + 1) (by rfl) 27 #[.int .i64 kc, .string sc, .string nc] (0, 0) _ HB.out.2.2 Tryd.underlying27 rfl hI ?_)
          | (go_at_call 13; with_reducible refine (HRf.out _).mono ?_; rintro e w5 ⟨rfl, hg2⟩; have hg := grown_trans HG.out hg2; have HB := Lib.hid (HC.out _ hg); have HG := Lib.hid hg; clear hg2 hg)
          | (go_at_call 12; with_reducible refine (HBA.out _).mono ?_; rintro e w6 ⟨rfl, hg2⟩; have hg := grown_trans HG.out hg2; have HB := Lib.hid (HC.out _ hg); have HG := Lib.hid hg; clear hg2 hg)
          | (refine wpList_cmpG (by rfl) _ (eqSb_val (by rfl) (by rfl) (by rfl) (HS.out _ _ _)) ?_))
        go_ret
        exact ⟨retB7 (by simp [hac]), grown_trans HW3.out HG.out⟩
    · obtain rfl := heq rfl
      rcases Int.lt_or_le 0 bc with hb | hb
      ·
        go_wp2_with (first
          | (refine wpList_load_rowG (by rfl) 27 (.tmp 3) (by rfl) (w.heap.size) (by rfl) 27 #[.int .i64 ka, .string sa, .string na] (0, 0) _ HB.out.1 Tryd.underlying27 rfl hI ?_)
          | (refine wpList_load_rowG (by rfl) 27 (.tmp 4) (by rfl) (w.heap.size + 1) (by rfl) 27 #[.int .i64 kb, .string sb, .string nb] (0, 0) _ HB.out.2.1 Tryd.underlying27 rfl hI ?_)
          | (refine wpList_load_rowG (by rfl) 27 (.tmp 5) (by rfl) (w.heap.size + 1 + 1) (by rfl) 27 #[.int .i64 kc, .string sc, .string nc] (0, 0) _ HB.out.2.2 Tryd.underlying27 rfl hI ?_)
          | (go_at_call 13; with_reducible refine (HRf.out _).mono ?_; rintro e w5 ⟨rfl, hg2⟩; have hg := grown_trans HG.out hg2; have HB := Lib.hid (HC.out _ hg); have HG := Lib.hid hg; clear hg2 hg)
          | (go_at_call 12; with_reducible refine (HBA.out _).mono ?_; rintro e w6 ⟨rfl, hg2⟩; have hg := grown_trans HG.out hg2; have HB := Lib.hid (HC.out _ hg); have HG := Lib.hid hg; clear hg2 hg)
          | (refine wpList_cmpG (by rfl) _ (eqSb_val (by rfl) (by rfl) (by rfl) (HS.out _ _ _)) ?_))
        go_ret
        exact ⟨retB7 (by simp [hb]), grown_trans HW3.out HG.out⟩
      · have hac := HT.out (by decide) hb
        go_wp2_with (first
          | (refine wpList_load_rowG (by rfl) 27 (.tmp 3) (by rfl) (w.heap.size) (by rfl) 27 #[.int .i64 ka, .string sa, .string na] (0, 0) _ HB.out.1 Tryd.underlying27 rfl hI ?_)
          | (refine wpList_load_rowG (by rfl) 27 (.tmp 4) (by rfl) (w.heap.size + 1) (by rfl) 27 #[.int .i64 kb, .string sb, .string nb] (0, 0) _ HB.out.2.1 Tryd.underlying27 rfl hI ?_)
          | (refine wpList_load_rowG (by rfl) 27 (.tmp 5) (by rfl) (w.heap.size + 1 + 1) (by rfl) 27 #[.int .i64 kc, .string sc, .string nc] (0, 0) _ HB.out.2.2 Tryd.underlying27 rfl hI ?_)
          | (go_at_call 13; with_reducible refine (HRf.out _).mono ?_; rintro e w5 ⟨rfl, hg2⟩; have hg := grown_trans HG.out hg2; have HB := Lib.hid (HC.out _ hg); have HG := Lib.hid hg; clear hg2 hg)
          | (go_at_call 12; with_reducible refine (HBA.out _).mono ?_; rintro e w6 ⟨rfl, hg2⟩; have hg := grown_trans HG.out hg2; have HB := Lib.hid (HC.out _ hg); have HG := Lib.hid hg; clear hg2 hg)
          | (refine wpList_cmpG (by rfl) _ (eqSb_val (by rfl) (by rfl) (by rfl) (HS.out _ _ _)) ?_))
        go_ret
        exact ⟨retB7 (by simp [hac]), grown_trans HW3.out HG.out⟩
    · obtain rfl := hne (by decide)
      go_wp2_with (first
        | (refine wpList_load_rowG (by rfl) 27 (.tmp 3) (by rfl) (w.heap.size) (by rfl) 27 #[.int .i64 ka, .string sa, .string na] (0, 0) _ HB.out.1 Tryd.underlying27 rfl hI ?_)
        | (refine wpList_load_rowG (by rfl) 27 (.tmp 4) (by rfl) (w.heap.size + 1) (by rfl) 27 #[.int .i64 kb, .string sb, .string nb] (0, 0) _ HB.out.2.1 Tryd.underlying27 rfl hI ?_)
        | (refine wpList_load_rowG (by rfl) 27 (.tmp 5) (by rfl) (w.heap.size + 1 + 1) (by rfl) 27 #[.int .i64 kc, .string sc, .string nc] (0, 0) _ HB.out.2.2 Tryd.underlying27 rfl hI ?_)
        | (go_at_call 13; with_reducible refine (HRf.out _).mono ?_; rintro e w5 ⟨rfl, hg2⟩; have hg := grown_trans HG.out hg2; have HB := Lib.hid (HC.out _ hg); have HG := Lib.hid hg; clear hg2 hg)
        | (go_at_call 12; with_reducible refine (HBA.out _).mono ?_; rintro e w6 ⟨rfl, hg2⟩; have hg := grown_trans HG.out hg2; have HB := Lib.hid (HC.out _ hg); have HG := Lib.hid hg; clear hg2 hg)
        | (refine wpList_cmpG (by rfl) _ (eqSb_val (by rfl) (by rfl) (by rfl) (HS.out _ _ _)) ?_))
      go_ret
      exact ⟨retB7 (by simp), grown_trans HW3.out HG.out⟩
end Go.Proofs.YtepjjgplnmkjgaaDoor
