/- Package names' Parse. -/
import Derived.Test.YtepjjgplnmkjgaaDoorNq1
import Derived.Test.YtepjjgplnmkjgaaDoorEv
import Derived.BigRegion
namespace Go.Proofs.YtepjjgplnmkjgaaDoor
open Go.RowKit
set_option linter.unusedVariables false

theorem hold_blk {w w' : World} {b : Nat} {o : Obj} (h : w.heap[b]? = some o) (hg : w.grownBy w' none) : w'.heap[b]? = some o := (hg.block b (blk_lt h) (by simp)).trans h
/-- The variable that holds the error of a name. -/
structure NameErr (w : World) (A : Nat → Addr) : Prop where
  name : w.cell? ⟨0, 0, none⟩ = some (errV A 9)
theorem NameErr.grown {w w' : World} {A : Nat → Addr} (h : NameErr w A) (hg : w.grownBy w' none) : NameErr w' A :=
  ⟨(World.cell?_of_block (hg.block _ (World.block_lt_of_cell? w _ h.name) (by simp))).trans h.name⟩
set_option maxRecDepth 100000 in
set_option maxHeartbeats 2000000 in
theorem parse9_any (A : Nat → Addr) (t : ByteArray) (ht : t.size ≤ 900) (w : World) (hW : Words w) (hE : NameErr w A) : Calls Tryd.prog 9 #[.string t] w fun e w' => e = .returned (.tuple (if Na.right (Na.p0 t) = true then #[Na.val (Na.p0 t), .nilIface] else #[Na.val ⟨0, Na.e0, Na.e0⟩, errV A 9])) ∧ w.grownBy w' none := by
  have hI : (Tryd.prog.info? 27).map (·.size) = some 3 := by kernel_rfl
  have HC1 := Lib.hid (fun W => cut_any t 58 (by omega) W)
  unfold cutV at HC1
  obtain ⟨c1, hc1⟩ : ∃ c, c = Na.cutN 58 (strL t) := ⟨_, rfl⟩
  rw [show (58 : UInt8).toNat = 58 from rfl, ← hc1] at HC1
  have hp : Na.p0 t = if Na.kindOf (strOf c1.1) = 2 then ⟨2, strOf (Na.cutN 47 c1.2.1).1, strOf (Na.cutN 47 c1.2.1).2.1⟩ else ⟨Na.kindOf (strOf c1.1), Na.e0, strOf c1.2.1⟩ := by rw [hc1]; rfl
  have HK := Lib.hid (fun W (hg : w.grownBy W none) => kindOf_any (strOf c1.1) W (hW.grown hg))
  have hkl := Na.kind_le (strOf c1.1)
  have hlen : c1.1.length ≤ 900 ∧ c1.2.1.length ≤ 900 := by
    have hl := strL_len t
    rcases Na.cutN_spec (c := 58) (strL t) with ⟨_, h⟩ | ⟨_, h, h'⟩
    · have := congrArg List.length h
      rw [List.length_append, List.length_cons, ← hc1] at this
      omega
    · rw [hc1, h, h']
      exact ⟨by omega, by simp⟩
  by_cases k2 : Na.kindOf (strOf c1.1) = 2
  · rw [if_pos k2] at hp
    have hm : (∀ x ∈ c1.2.1, x < 256) := by rw [hc1]; exact (Na.cutN_lt (strL_lt t)).2
    have HC2 := Lib.hid (fun W => cut_any (strOf c1.2.1) 47 (by rw [strOf_size]; omega) W)
    unfold cutV at HC2
    rw [show (47 : UInt8).toNat = 47 from rfl, strL_strOf hm] at HC2
    obtain ⟨c2, hc2⟩ : ∃ c, c = Na.cutN 47 c1.2.1 := ⟨_, rfl⟩
    rw [← hc2] at HC2 hp
    have hlen2 : c2.1.length ≤ 900 ∧ c2.2.1.length ≤ 900 := by
      rcases Na.cutN_spec (c := 47) c1.2.1 with ⟨_, h⟩ | ⟨_, h, h'⟩
      · have := congrArg List.length h
        rw [List.length_append, List.length_cons, ← hc2] at this
        omega
      · rw [hc2, h, h']
        exact ⟨by omega, by simp⟩
    have HR := Lib.hid (fun W => right_any ⟨2, strOf c2.1, strOf c2.2.1⟩ (by rw [strOf_size]; omega) (by rw [strOf_size]; omega) W)
    rw [hp]
    rw [k2] at HK
    generalize strOf c1.1 = a1 at *
    generalize strOf c1.2.1 = b1 at *
    generalize strOf c2.1 = a2 at *
    generalize strOf c2.2.1 = b2 at *
    have HEr := Lib.hid (fun W (hg : w.grownBy W none) => (hE.grown hg).name)
    unfold Na.val at *
    clear hp hkl k2 hm hlen hlen2 hc1 hc2 hW hE
    cases hq : Na.right ⟨2, a2, b2⟩ with
    | true =>
      rw [hq] at HR
      rw [if_pos rfl]
      clear hq HEr
      go_enter Tryd.func9, Tryd.ntmps9
      go_wp2_with (first
        | (go_at_call 24; with_reducible refine (HC1.out _).mono ?_; rintro e w1 ⟨rfl, hg1⟩; have HR1 := Lib.hid (hold_blk (alloc_at w _) hg1); have HG := Lib.hid (grown_trans (grown_alloc (grown_refl _ _) _) hg1); clear hg1)
        | (go_at_call 18; with_reducible refine (HK.out _ HG.out).mono ?_; rintro e w2 ⟨rfl, rfl⟩; have HR2 := Lib.hid (hold_blk (alloc_at w2 (.cells #[.int .i64 2, .string ⟨#[]⟩, .string b1] 27)) (grown_refl _ none)); have HR1b := Lib.hid (alloc_keep (o := .cells #[.int .i64 2, .string ⟨#[]⟩, .string b1] 27) HR1.out))
        | (go_at_call 24; with_reducible refine (HC2.out _).mono ?_; rintro e w3 ⟨rfl, hg3⟩; have HR3 := Lib.hid (hold_blk HR2.out hg3); have HR1c := Lib.hid (hold_blk HR1b.out hg3); have HG3 := Lib.hid (grown_trans (grown_alloc HG.out _) hg3); have f1 := free_blk HR3.out 1; have f2 := free_blk HR3.out 2; have x1 := cell_blk HR3.out 1 rfl; have x2 := cell_blk HR3.out 2 rfl; clear hg3)
        | (refine wpList_load_row (by rfl) 27 (.tmp 7) (by rfl) w2.heap.size (by rfl) 27 #[.int .i64 2, .string a2, .string b2] (0, 0) _ (by simpa using setCell_heap (i := 2) (setCell_heap (i := 1) HR3.out (.string a2)) (.string b2)) Tryd.underlying27 rfl hI ?_
           have HR5 : Hid (((w3.setCell ⟨w2.heap.size, 1, none⟩ (.string a2)).setCell ⟨w2.heap.size, 2, none⟩ (.string b2)).heap[w2.heap.size]? = some (.cells #[.int .i64 2, .string a2, .string b2] 27 (0, 0))) := Lib.hid (by simpa using setCell_heap (i := 2) (setCell_heap (i := 1) HR3.out (.string a2)) (.string b2))
           have HQ5 : Hid (((w3.setCell ⟨w2.heap.size, 1, none⟩ (.string a2)).setCell ⟨w2.heap.size, 2, none⟩ (.string b2)).heap[w.heap.size]? = some (.cells #[.int .i64 0, .string ⟨#[]⟩, .string ⟨#[]⟩] 27 (0, 0))) := Lib.hid (by
             rw [Below.heap_setCell _ _ _ _ (by show w.heap.size ≠ w2.heap.size; have := blk_lt HR1.out; omega), Below.heap_setCell _ _ _ _ (by show w.heap.size ≠ w2.heap.size; have := blk_lt HR1.out; omega)]; exact HR1c.out)
           have HG5 : Hid (w.grownBy ((w3.setCell ⟨w2.heap.size, 1, none⟩ (.string a2)).setCell ⟨w2.heap.size, 2, none⟩ (.string b2)) none) := Lib.hid (grown_set (grown_set HG3.out (.inl HG.out.size) _) (.inl HG.out.size) _)
           generalize ((w3.setCell ⟨w2.heap.size, 1, none⟩ (.string a2)).setCell ⟨w2.heap.size, 2, none⟩ (.string b2)) = w5 at *)
        | (go_at_call 25; with_reducible refine (HR.out _).mono ?_; rintro e w6 ⟨rfl, hg6⟩; have HR6 := Lib.hid (hold_blk HR5.out hg6); have HQ6 := Lib.hid (hold_blk HQ5.out hg6); have HG6 := Lib.hid (grown_trans HG5.out hg6); have y0 := free_blk HQ6.out 0; have y1 := free_blk HQ6.out 1; have y2 := free_blk HQ6.out 2; have z0 := cell_blk HQ6.out 0 rfl; have z1 := cell_blk HQ6.out 1 rfl; have z2 := cell_blk HQ6.out 2 rfl; clear hg6 f1 f2 x1 x2)
        | (refine wpList_load_row (by rfl) 27 (.tmp 7) (by rfl) w2.heap.size (by rfl) 27 #[.int .i64 2, .string a2, .string b2] (0, 0) _ HR6.out Tryd.underlying27 rfl hI ?_))
      refine bodyPost_ret (v := .tuple #[.agg #[.int .i64 2, .string a2, .string b2], .nilIface]) ?_ rfl ⟨rfl, grown_set (grown_set (grown_set HG6.out (.inl (Nat.le_refl _)) _) (.inl (Nat.le_refl _)) _) (.inl (Nat.le_refl _)) _⟩
      exact results_rowT Tryd.results9 _ _ w.heap.size _ _ (0, 0) _ _ rfl (set3 HQ6.out) Tryd.underlying27 rfl hI rfl
    | false =>
      rw [hq] at HR
      rw [if_neg (by decide)]
      unfold Na.e0
      have HEz := Lib.hid (World.block_lt_of_cell? w _ (HEr.out w (grown_refl _ _)))
      clear hq
      go_enter Tryd.func9, Tryd.ntmps9
      go_wp2_with (first
        | (go_at_call 24; with_reducible refine (HC1.out _).mono ?_; rintro e w1 ⟨rfl, hg1⟩; have HR1 := Lib.hid (hold_blk (alloc_at w _) hg1); have HG := Lib.hid (grown_trans (grown_alloc (grown_refl _ _) _) hg1); clear hg1)
        | (go_at_call 18; with_reducible refine (HK.out _ HG.out).mono ?_; rintro e w2 ⟨rfl, rfl⟩; have HR2 := Lib.hid (hold_blk (alloc_at w2 (.cells #[.int .i64 2, .string ⟨#[]⟩, .string b1] 27)) (grown_refl _ none)); have HR1b := Lib.hid (alloc_keep (o := .cells #[.int .i64 2, .string ⟨#[]⟩, .string b1] 27) HR1.out))
        | (go_at_call 24; with_reducible refine (HC2.out _).mono ?_; rintro e w3 ⟨rfl, hg3⟩; have HR3 := Lib.hid (hold_blk HR2.out hg3); have HR1c := Lib.hid (hold_blk HR1b.out hg3); have HG3 := Lib.hid (grown_trans (grown_alloc HG.out _) hg3); have f1 := free_blk HR3.out 1; have f2 := free_blk HR3.out 2; have x1 := cell_blk HR3.out 1 rfl; have x2 := cell_blk HR3.out 2 rfl; clear hg3)
        | (refine wpList_load_row (by rfl) 27 (.tmp 7) (by rfl) w2.heap.size (by rfl) 27 #[.int .i64 2, .string a2, .string b2] (0, 0) _ (by simpa using setCell_heap (i := 2) (setCell_heap (i := 1) HR3.out (.string a2)) (.string b2)) Tryd.underlying27 rfl hI ?_
           have HR5 : Hid (((w3.setCell ⟨w2.heap.size, 1, none⟩ (.string a2)).setCell ⟨w2.heap.size, 2, none⟩ (.string b2)).heap[w2.heap.size]? = some (.cells #[.int .i64 2, .string a2, .string b2] 27 (0, 0))) := Lib.hid (by simpa using setCell_heap (i := 2) (setCell_heap (i := 1) HR3.out (.string a2)) (.string b2))
           have HQ5 : Hid (((w3.setCell ⟨w2.heap.size, 1, none⟩ (.string a2)).setCell ⟨w2.heap.size, 2, none⟩ (.string b2)).heap[w.heap.size]? = some (.cells #[.int .i64 0, .string ⟨#[]⟩, .string ⟨#[]⟩] 27 (0, 0))) := Lib.hid (by
             rw [Below.heap_setCell _ _ _ _ (by show w.heap.size ≠ w2.heap.size; have := blk_lt HR1.out; omega), Below.heap_setCell _ _ _ _ (by show w.heap.size ≠ w2.heap.size; have := blk_lt HR1.out; omega)]; exact HR1c.out)
           have HG5 : Hid (w.grownBy ((w3.setCell ⟨w2.heap.size, 1, none⟩ (.string a2)).setCell ⟨w2.heap.size, 2, none⟩ (.string b2)) none) := Lib.hid (grown_set (grown_set HG3.out (.inl HG.out.size) _) (.inl HG.out.size) _)
           generalize ((w3.setCell ⟨w2.heap.size, 1, none⟩ (.string a2)).setCell ⟨w2.heap.size, 2, none⟩ (.string b2)) = w5 at *)
        | (go_at_call 25; with_reducible refine (HR.out _).mono ?_; rintro e w6 ⟨rfl, hg6⟩; have HR6 := Lib.hid (hold_blk HR5.out hg6); have HQ6 := Lib.hid (hold_blk HQ5.out hg6); have HG6 := Lib.hid (grown_trans HG5.out hg6); have y0 := free_blk HQ6.out 0; have y1 := free_blk HQ6.out 1; have y2 := free_blk HQ6.out 2; have z0 := cell_blk HQ6.out 0 rfl; have z1 := cell_blk HQ6.out 1 rfl; have z2 := cell_blk HQ6.out 2 rfl; clear hg6 f1 f2 x1 x2)
        | (refine wpList_load_row (by rfl) 27 (.tmp 7) (by rfl) w2.heap.size (by rfl) 27 #[.int .i64 2, .string a2, .string b2] (0, 0) _ HR6.out Tryd.underlying27 rfl hI ?_))
      have he := HEr.out _ HG6.out
      have hz : 0 < w.heap.size := HEz.out
      have hz1 : w.heap.size ≠ 0 := by omega
      have hz2 : 0 ≠ w.heap.size := by omega
      go_region
      go_wp2
      refine bodyPost_ret (v := .tuple #[.agg #[.int .i64 0, .string ⟨#[]⟩, .string ⟨#[]⟩], errV A 9]) ?_ rfl ⟨rfl, ?_⟩
      · exact results_rowT Tryd.results9 _ _ w.heap.size _ _ (0, 0) _ _ rfl (set3 HQ6.out) Tryd.underlying27 rfl hI rfl
      · exact grown_drewN (grown_set (grown_set (grown_set HG6.out (.inl (Nat.le_refl _)) _) (.inl (Nat.le_refl _)) _) (.inl (Nat.le_refl _)) _) 1
  · rw [if_neg k2] at hp
    have HR := Lib.hid (fun W => right_any ⟨Na.kindOf (strOf c1.1), Na.e0, strOf c1.2.1⟩ (show Na.e0.size ≤ 1000 by decide) (by rw [strOf_size]; omega) W)
    rw [hp]
    have hK2 : (Na.kindOf (strOf c1.1) == 2) = false := by rw [beq_eq_false_iff_ne]; exact k2
    generalize Na.kindOf (strOf c1.1) = K at *
    generalize strOf c1.1 = a1 at *
    generalize strOf c1.2.1 = b1 at *
    have HEr := Lib.hid (fun W (hg : w.grownBy W none) => (hE.grown hg).name)
    unfold Na.val at *
    simp only at HR
    clear hp hkl k2 hlen hc1 hW hE
    cases hq : Na.right ⟨K, Na.e0, b1⟩ with
    | true =>
      rw [hq] at HR
      rw [if_pos rfl]
      unfold Na.e0 at *
      clear hq HEr
      go_enter Tryd.func9, Tryd.ntmps9
      go_wp2_with (first
        | (go_at_call 24; with_reducible refine (HC1.out _).mono ?_; rintro e w1 ⟨rfl, hg1⟩; have HR1 := Lib.hid (hold_blk (alloc_at w _) hg1); have HG := Lib.hid (grown_trans (grown_alloc (grown_refl _ _) _) hg1); clear hg1)
        | (go_at_call 18; with_reducible refine (HK.out _ HG.out).mono ?_; rintro e w2 ⟨rfl, rfl⟩; have HR2 := Lib.hid (hold_blk (alloc_at w2 (.cells #[.int .i64 K, .string ⟨#[]⟩, .string b1] 27)) (grown_refl _ none)); have HR1b := Lib.hid (alloc_keep (o := .cells #[.int .i64 K, .string ⟨#[]⟩, .string b1] 27) HR1.out))
        | (refine wpList_load_row (by rfl) 27 (.tmp 7) (by rfl) w2.heap.size (by rfl) 27 #[.int .i64 K, .string ⟨#[]⟩, .string b1] (0, 0) _ HR2.out Tryd.underlying27 rfl hI ?_; have HG5 := Lib.hid (grown_alloc HG.out (.cells #[.int .i64 K, .string ⟨#[]⟩, .string b1] 27)))
        | (go_at_call 25; with_reducible refine (HR.out _).mono ?_; rintro e w6 ⟨rfl, hg6⟩; have HR6 := Lib.hid (hold_blk HR2.out hg6); have HQ6 := Lib.hid (hold_blk HR1b.out hg6); have HG6 := Lib.hid (grown_trans HG5.out hg6); have y0 := free_blk HQ6.out 0; have y1 := free_blk HQ6.out 1; have y2 := free_blk HQ6.out 2; have z0 := cell_blk HQ6.out 0 rfl; have z1 := cell_blk HQ6.out 1 rfl; have z2 := cell_blk HQ6.out 2 rfl; clear hg6)
        | (refine wpList_load_row (by rfl) 27 (.tmp 7) (by rfl) w2.heap.size (by rfl) 27 #[.int .i64 K, .string ⟨#[]⟩, .string b1] (0, 0) _ HR6.out Tryd.underlying27 rfl hI ?_))
      refine bodyPost_ret (v := .tuple #[.agg #[.int .i64 K, .string ⟨#[]⟩, .string b1], .nilIface]) ?_ rfl ⟨rfl, grown_set (grown_set (grown_set HG6.out (.inl (Nat.le_refl _)) _) (.inl (Nat.le_refl _)) _) (.inl (Nat.le_refl _)) _⟩
      exact results_rowT Tryd.results9 _ _ w.heap.size _ _ (0, 0) _ _ rfl (set3 HQ6.out) Tryd.underlying27 rfl hI rfl
    | false =>
      rw [hq] at HR
      rw [if_neg (by decide)]
      unfold Na.e0 at *
      have HEz := Lib.hid (World.block_lt_of_cell? w _ (HEr.out w (grown_refl _ _)))
      clear hq
      go_enter Tryd.func9, Tryd.ntmps9
      go_wp2_with (first
        | (go_at_call 24; with_reducible refine (HC1.out _).mono ?_; rintro e w1 ⟨rfl, hg1⟩; have HR1 := Lib.hid (hold_blk (alloc_at w _) hg1); have HG := Lib.hid (grown_trans (grown_alloc (grown_refl _ _) _) hg1); clear hg1)
        | (go_at_call 18; with_reducible refine (HK.out _ HG.out).mono ?_; rintro e w2 ⟨rfl, rfl⟩; have HR2 := Lib.hid (hold_blk (alloc_at w2 (.cells #[.int .i64 K, .string ⟨#[]⟩, .string b1] 27)) (grown_refl _ none)); have HR1b := Lib.hid (alloc_keep (o := .cells #[.int .i64 K, .string ⟨#[]⟩, .string b1] 27) HR1.out))
        | (refine wpList_load_row (by rfl) 27 (.tmp 7) (by rfl) w2.heap.size (by rfl) 27 #[.int .i64 K, .string ⟨#[]⟩, .string b1] (0, 0) _ HR2.out Tryd.underlying27 rfl hI ?_; have HG5 := Lib.hid (grown_alloc HG.out (.cells #[.int .i64 K, .string ⟨#[]⟩, .string b1] 27)))
        | (go_at_call 25; with_reducible refine (HR.out _).mono ?_; rintro e w6 ⟨rfl, hg6⟩; have HR6 := Lib.hid (hold_blk HR2.out hg6); have HQ6 := Lib.hid (hold_blk HR1b.out hg6); have HG6 := Lib.hid (grown_trans HG5.out hg6); have y0 := free_blk HQ6.out 0; have y1 := free_blk HQ6.out 1; have y2 := free_blk HQ6.out 2; have z0 := cell_blk HQ6.out 0 rfl; have z1 := cell_blk HQ6.out 1 rfl; have z2 := cell_blk HQ6.out 2 rfl; clear hg6)
        | (refine wpList_load_row (by rfl) 27 (.tmp 7) (by rfl) w2.heap.size (by rfl) 27 #[.int .i64 K, .string ⟨#[]⟩, .string b1] (0, 0) _ HR6.out Tryd.underlying27 rfl hI ?_))
      have he := HEr.out _ HG6.out
      have hz : 0 < w.heap.size := HEz.out
      have hz1 : w.heap.size ≠ 0 := by omega
      have hz2 : 0 ≠ w.heap.size := by omega
      go_region
      go_wp2
      refine bodyPost_ret (v := .tuple #[.agg #[.int .i64 0, .string ⟨#[]⟩, .string ⟨#[]⟩], errV A 9]) ?_ rfl ⟨rfl, ?_⟩
      · exact results_rowT Tryd.results9 _ _ w.heap.size _ _ (0, 0) _ _ rfl (set3 HQ6.out) Tryd.underlying27 rfl hI rfl
      · exact grown_drewN (grown_set (grown_set (grown_set HG6.out (.inl (Nat.le_refl _)) _) (.inl (Nat.le_refl _)) _) (.inl (Nat.le_refl _)) _) 1
end Go.Proofs.YtepjjgplnmkjgaaDoor
