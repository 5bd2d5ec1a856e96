/- Package names' Parts of what isn't right, and Of (by wip/tools/gennq8.py). -/
import Derived.Test.YtepjjgplnmkjgaaDoorNq7
import Derived.BigRegion
namespace Go.Proofs.YtepjjgplnmkjgaaDoor
open Go.RowKit
set_option linter.unusedVariables false

set_option maxRecDepth 100000 in
set_option maxHeartbeats 2000000 in
theorem parts9_no (A : Nat → Addr) (s : Na.Sb) (h1 : s.sp.size ≤ 1000) (h2 : s.nm.size ≤ 1000) (hr : Na.right s = false) (w : World) (hE : NameErr w A) : Calls Tryd.prog 19 #[Na.val s] w fun e w' => e = .returned (.tuple #[.slice none 0 0, errV A 9]) ∧ w.grownBy w' none := by
  have hI : (Tryd.prog.info? 27).map (·.size) = some 3 := by kernel_rfl
  have HR := Lib.hid (fun W => right_any s h1 h2 W)
  rw [hr] at HR
  obtain ⟨k, sp, nm⟩ := s
  unfold Na.val at *
  have HB := Lib.hid (alloc_at w (.cells #[.int .i64 k, .string sp, .string nm] 27))
  have HEr := Lib.hid (fun W (hg : w.grownBy W none) => (hE.grown hg).name)
  clear hr h1 h2 hE
  go_enter Tryd.func19, Tryd.ntmps19
  go_wp2_with (first
    | (refine wpList_load_row (by rfl) 27 (.tmp 1) (by rfl) w.heap.size (by rfl) 27 #[.int .i64 k, .string sp, .string nm] (0, 0) _ HB.out Tryd.underlying27 rfl hI ?_)
    | (go_at_call 25; refine (HR.out _).mono ?_; rintro e w2 ⟨rfl, hg2⟩; have hg := grown_trans (grown_alloc (grown_refl _ _) _) hg2; have he := HEr.out _ hg; have HG2 := Lib.hid hg; clear hg2 hg))
  go_quiet (fail)
  go_wp2
  go_ret2
  exact ⟨rfl, grown_drewN HG2.out _⟩
theorem first_le {l : List Na.Pr} {o : ByteArray} (h : ∀ p ∈ l, p.2.size ≤ 900) : (Na.firstOf o l).size ≤ 900 := by
  induction l with
  | nil => show Na.e0.size ≤ 900; decide
  | cons p r ih =>
    rw [Na.firstOf]
    split
    · exact h p (by simp)
    · exact ih (fun q hq => h q (by simp [hq]))
/-- What Of answers. -/
def OfV (A : Nat → Addr) (l : List Na.Pr) : Array Value := if Na.right (Na.s0 l) = true ∧ Na.parts (Na.s0 l) = l then #[Na.val (Na.s0 l), .nilIface] else #[Na.val ⟨0, Na.e0, Na.e0⟩, errV A 9]
set_option maxRecDepth 100000 in
set_option maxHeartbeats 8000000 in
theorem of9_any (A : Nat → Addr) (v : Value) (l : List Na.Pr) (w : World) (hP : Prts w v l) (hl : l.length ≤ 1000) (hsz : ∀ p ∈ l, p.2.size ≤ 900) (hW : Words w) (hE : NameErr w A) : Calls Tryd.prog 6 #[v] w fun e w' => e = .returned (.tuple (OfV A l)) ∧ w.grownBy w' none := by
  have hI : (Tryd.prog.info? 27).map (·.size) = some 3 := by kernel_rfl
  have f2 := first_le (o := Na.o2) hsz
  have f3 := first_le (o := Na.o3) hsz
  have HF := Lib.hid (fun o W (hg : (w.alloc (.cells #[v] 22)).grownBy W none) => of1_any v l o w.heap.size W ((hP.grown (World.grownBy_alloc w (.cells #[v] 22) none)).grown hg) ((World.cell?_of_block (hg.block w.heap.size (by rw [alloc_size]; omega) (by simp))).trans (cell_blk (alloc_at w _) 0 rfl)) hl)
  have HK := Lib.hid (fun W (hg : w.grownBy W none) => kindOf_any (Na.firstOf Na.o1 l) W (hW.grown hg))
  have HR2 := Lib.hid (fun (b : Bool) (hb : Na.right (Na.s0 l) = true) W (hg : w.grownBy W none) => parts9_ok (Na.s0 l) (by show (Na.firstOf Na.o2 l).size ≤ 1000; omega) (by show (Na.firstOf Na.o3 l).size ≤ 1000; omega) hb W (hW.grown hg))
  have HR3 := Lib.hid (fun (hb : Na.right (Na.s0 l) = false) W (hg : w.grownBy W none) => parts9_no A (Na.s0 l) (by show (Na.firstOf Na.o2 l).size ≤ 1000; omega) (by show (Na.firstOf Na.o3 l).size ≤ 1000; omega) hb W (hE.grown hg))
  have HEr := Lib.hid (fun W (hg : w.grownBy W none) => (hE.grown hg).name)
  have HEz := Lib.hid (World.block_lt_of_cell? w _ hE.name)
  have HPv := Lib.hid (fun W (hg : w.grownBy W none) => hP.grown hg)
  have hpl : (Na.parts (Na.s0 l)).length ≤ 1000 := by
    unfold Na.parts
    split <;> simp
  have HEq := Lib.hid (fun v1 W (h1 : Prts W v1 (Na.parts (Na.s0 l))) (hg : w.grownBy W none) => eqParts_any v1 v (Na.parts (Na.s0 l)) l W h1 (hP.grown hg) hpl hl)
  have hV : Na.val (Na.s0 l) = .agg #[.int .i64 (Na.kindOf (Na.firstOf Na.o1 l)), .string (Na.firstOf Na.o2 l), .string (Na.firstOf Na.o3 l)] := rfl
  have hOV : OfV A l = if Na.right (Na.s0 l) = true ∧ Na.parts (Na.s0 l) = l then #[.agg #[.int .i64 (Na.kindOf (Na.firstOf Na.o1 l)), .string (Na.firstOf Na.o2 l), .string (Na.firstOf Na.o3 l)], .nilIface] else #[.agg #[.int .i64 0, .string ⟨#[]⟩, .string ⟨#[]⟩], errV A 9] := rfl
  rw [hV] at HR2 HR3
  rw [hOV]
  have HF1 := Lib.hid (fun W hg => HF.out Na.o1 W hg)
  have HF2 := Lib.hid (fun W hg => HF.out Na.o2 W hg)
  have HF3 := Lib.hid (fun W hg => HF.out Na.o3 W hg)
  unfold Na.o1 at HF1
  unfold Na.o2 at HF2
  unfold Na.o3 at HF3
  have HB0 := Lib.hid (alloc_at2 w (.cells #[v] 22) (.cells #[.int .i64 0, .string ⟨#[]⟩, .string ⟨#[]⟩] 27))
  have HC0 := Lib.hid (cell_blk (alloc_keep (o := .cells #[.int .i64 0, .string ⟨#[]⟩, .string ⟨#[]⟩] 27) (alloc_at w (.cells #[v] 22))) 0 rfl)
  have HG0 := Lib.hid (grown_alloc (grown_alloc (grown_refl w none) (.cells #[v] 22)) (.cells #[.int .i64 0, .string ⟨#[]⟩, .string ⟨#[]⟩] 27))
  have HG0b := Lib.hid (World.grownBy_alloc (w.alloc (.cells #[v] 22)) (.cells #[.int .i64 0, .string ⟨#[]⟩, .string ⟨#[]⟩] 27) none)
  have hw0 : w.heap.size < ((w.alloc (.cells #[v] 22)).alloc (.cells #[.int .i64 0, .string ⟨#[]⟩, .string ⟨#[]⟩] 27)).heap.size := by simp only [alloc_size]; omega
  have HW0 := Lib.hid hw0
  obtain ⟨q, hq⟩ : ∃ q, q = Na.right (Na.s0 l) := ⟨_, rfl⟩
  rw [← hq] at HR2 HR3 ⊢
  have HD : Hid (∀ b, decide (Na.parts (Na.s0 l) = l) = b → (Na.parts (Na.s0 l) = l ↔ b = true)) := Lib.hid (fun b h => by rw [← h]; simp)
  generalize hps : Na.parts (Na.s0 l) = ps at *
  unfold Na.o1 Na.o2 Na.o3 at *
  generalize Na.firstOf ⟨#[49, 46, 51, 46, 57, 57, 57, 57, 46, 49, 46, 49]⟩ l = x1 at *
  generalize Na.firstOf ⟨#[49, 46, 51, 46, 57, 57, 57, 57, 46, 49, 46, 50]⟩ l = x2 at *
  generalize Na.firstOf ⟨#[49, 46, 51, 46, 57, 57, 57, 57, 46, 49, 46, 51]⟩ l = x3 at *
  generalize Na.kindOf x1 = kx at *
  obtain ⟨av, nv, cv, rfl⟩ : ∃ a n c, v = .slice a n c := by
    obtain ⟨a, c, e⟩ := hP.form
    exact ⟨a, _, c, e⟩
  clear hq hps HF hV hOV f2 f3 hpl hl hsz hW hE hP hw0
  have HF1' := Lib.hid (fun W hg => HF1.out W hg)
  have arms : True := trivial
  clear HF1' arms
  cases q with
  | false =>
    rw [if_neg (fun h => absurd h.1 (by decide))]
    have HR3' := Lib.hid (HR3.out rfl)
    clear HR2 HR3 HEq HD
    go_enter Tryd.func6, Tryd.ntmps6
    go_wp2_with (first
      | (go_at_call 15; with_reducible refine (HF1.out _ HG0b.out).mono ?_; rintro e wa ⟨rfl, hga⟩; have HA := Lib.hid (grown_trans HG0b.out hga); have HGA := Lib.hid (grown_trans HG0.out hga); have HBA := Lib.hid (hold_blk HB0.out hga); have HCA := Lib.hid ((World.cell?_of_block (hga.block w.heap.size HW0.out (by simp))).trans HC0.out); have HWA := Lib.hid (Nat.lt_of_lt_of_le HW0.out hga.size); clear hga)
      | (go_at_call 18; with_reducible refine (HK.out _ HGA.out).mono ?_; rintro e w2 ⟨rfl, rfl⟩)
      | (go_at_call 15; with_reducible refine (HF2.out _ HA.out).mono ?_; rintro e wb ⟨rfl, hgb⟩; have HAB := Lib.hid (grown_trans HA.out hgb); have HGB := Lib.hid (grown_trans HGA.out hgb); have HBB := Lib.hid (hold_blk HBA.out hgb); have HCB := Lib.hid ((World.cell?_of_block (hgb.block w.heap.size HWA.out (by simp))).trans HCA.out); have HWB := Lib.hid (Nat.lt_of_lt_of_le HWA.out hgb.size); clear hgb)
      | (go_at_call 15; with_reducible refine (HF3.out _ HAB.out).mono ?_; rintro e wc ⟨rfl, hgc⟩; have HGC := Lib.hid (grown_trans HGB.out hgc); have HBC := Lib.hid (hold_blk HBB.out hgc); have HCC := Lib.hid ((World.cell?_of_block (hgc.block w.heap.size HWB.out (by simp))).trans HCB.out); have HWC := Lib.hid (Nat.lt_of_lt_of_le HWB.out hgc.size); have HSC := Lib.hid (alloc_at wc (.cells #[.int .i64 kx, .string x2, .string x3] 27)); clear hgc)
      | (refine wpList_load_row (by rfl) 27 (.tmp 5) (by rfl) wc.heap.size (by rfl) 27 #[.int .i64 kx, .string x2, .string x3] (0, 0) _ HSC.out Tryd.underlying27 rfl hI ?_)
      | (go_at_call 19; refine (HR3'.out _ (grown_alloc HGC.out _)).mono ?_; rintro e wd ⟨rfl, hgd⟩; have HGD := Lib.hid (grown_trans (grown_alloc HGC.out _) hgd); have HBD := Lib.hid (hold_blk (alloc_keep (o := .cells #[.int .i64 kx, .string x2, .string x3] 27) HBC.out) hgd); clear hgd))
    have he := HEr.out _ HGD.out
    have y0 := free_blk HBD.out 0
    have y1 := free_blk HBD.out 1
    have y2 := free_blk HBD.out 2
    have z0 := cell_blk HBD.out 0 rfl
    have z1 := cell_blk HBD.out 1 rfl
    have z2 := cell_blk HBD.out 2 rfl
    have hz : 0 < w.heap.size := HEz.out
    have hz1 : w.heap.size + 1 ≠ 0 := by omega
    have hz2 : 0 ≠ w.heap.size + 1 := by omega
    go_region
    go_wp2
    refine bodyPost_ret (v := .tuple #[.agg #[.int .i64 0, .string ⟨#[]⟩, .string ⟨#[]⟩], errV A 9]) ?_ rfl ⟨rfl, ?_⟩
    · exact results_rowT Tryd.results6 _ _ (w.heap.size + 1) _ _ (0, 0) _ _ rfl (set3 HBD.out) Tryd.underlying27 rfl hI rfl
    · exact grown_drewN (grown_set (grown_set (grown_set HGD.out (.inl (Nat.le_succ _)) _) (.inl (Nat.le_succ _)) _) (.inl (Nat.le_succ _)) _) 1
  | true =>
    have HR2' := Lib.hid (HR2.out true rfl)
    clear HR2 HR3
    by_cases hpl : ps = l
    · rw [if_pos ⟨rfl, hpl⟩]
      have HEq' : Hid (∀ v1 W, Prts W v1 ps → w.grownBy W none → Calls Tryd.prog 20 #[v1, .slice av nv cv] W fun e w' => e = .returned (.bool true) ∧ W.grownBy w' none) := Lib.hid (fun v1 W h1 hg => by have := HEq.out v1 W h1 hg; rwa [decide_eq_true hpl] at this)
      clear HEq HD hpl HEr HEz
      go_enter Tryd.func6, Tryd.ntmps6
      go_wp2_with (first
        | (go_at_call 15; with_reducible refine (HF1.out _ HG0b.out).mono ?_; rintro e wa ⟨rfl, hga⟩; have HA := Lib.hid (grown_trans HG0b.out hga); have HGA := Lib.hid (grown_trans HG0.out hga); have HBA := Lib.hid (hold_blk HB0.out hga); have HCA := Lib.hid ((World.cell?_of_block (hga.block w.heap.size HW0.out (by simp))).trans HC0.out); have HWA := Lib.hid (Nat.lt_of_lt_of_le HW0.out hga.size); clear hga)
        | (go_at_call 18; with_reducible refine (HK.out _ HGA.out).mono ?_; rintro e w2 ⟨rfl, rfl⟩)
        | (go_at_call 15; with_reducible refine (HF2.out _ HA.out).mono ?_; rintro e wb ⟨rfl, hgb⟩; have HAB := Lib.hid (grown_trans HA.out hgb); have HGB := Lib.hid (grown_trans HGA.out hgb); have HBB := Lib.hid (hold_blk HBA.out hgb); have HCB := Lib.hid ((World.cell?_of_block (hgb.block w.heap.size HWA.out (by simp))).trans HCA.out); have HWB := Lib.hid (Nat.lt_of_lt_of_le HWA.out hgb.size); clear hgb)
        | (go_at_call 15; with_reducible refine (HF3.out _ HAB.out).mono ?_; rintro e wc ⟨rfl, hgc⟩; have HGC := Lib.hid (grown_trans HGB.out hgc); have HBC := Lib.hid (hold_blk HBB.out hgc); have HCC := Lib.hid ((World.cell?_of_block (hgc.block w.heap.size HWB.out (by simp))).trans HCB.out); have HWC := Lib.hid (Nat.lt_of_lt_of_le HWB.out hgc.size); have HSC := Lib.hid (alloc_at wc (.cells #[.int .i64 kx, .string x2, .string x3] 27)); clear hgc)
        | (refine wpList_load_row (by rfl) 27 (.tmp 5) (by rfl) wc.heap.size (by rfl) 27 #[.int .i64 kx, .string x2, .string x3] (0, 0) _ HSC.out Tryd.underlying27 rfl hI ?_)
        | (go_at_call 19; refine (HR2'.out _ (grown_alloc HGC.out _)).mono ?_; rintro e wd ⟨v1, rfl, hgd, ho⟩; have HGD := Lib.hid (grown_trans (grown_alloc HGC.out _) hgd); have HBD := Lib.hid (hold_blk (alloc_keep (o := .cells #[.int .i64 kx, .string x2, .string x3] 27) HBC.out) hgd); have HSD := Lib.hid (hold_blk HSC.out hgd); have HO := Lib.hid (Prts.own ho rfl); have c0 := (World.cell?_of_block (hgd.block w.heap.size (by have := HWC.out; rw [alloc_size]; omega) (by simp))).trans ((World.cell?_of_block ((World.grownBy_alloc wc (.cells #[.int .i64 kx, .string x2, .string x3] 27) none).block w.heap.size HWC.out (by simp))).trans HCC.out); clear hgd ho)
        | (go_at_call 20; refine (HEq'.out _ _ HO.out HGD.out).mono ?_; rintro e we ⟨rfl, hge⟩; have HGE := Lib.hid (grown_trans HGD.out hge); have HBE := Lib.hid (hold_blk HBD.out hge); have HSE := Lib.hid (hold_blk HSD.out hge); clear hge c0)
        | (refine wpList_load_row (by rfl) 27 (.tmp 5) (by rfl) wc.heap.size (by rfl) 27 #[.int .i64 kx, .string x2, .string x3] (0, 0) _ HSE.out Tryd.underlying27 rfl hI ?_; have y0 := free_blk HBE.out 0; have y1 := free_blk HBE.out 1; have y2 := free_blk HBE.out 2; have z0 := cell_blk HBE.out 0 rfl; have z1 := cell_blk HBE.out 1 rfl; have z2 := cell_blk HBE.out 2 rfl))
      refine bodyPost_ret (v := .tuple #[.agg #[.int .i64 kx, .string x2, .string x3], .nilIface]) ?_ rfl ⟨rfl, grown_set (grown_set (grown_set HGE.out (.inl (Nat.le_succ _)) _) (.inl (Nat.le_succ _)) _) (.inl (Nat.le_succ _)) _⟩
      exact results_rowT Tryd.results6 _ _ (w.heap.size + 1) _ _ (0, 0) _ _ rfl (set3 HBE.out) Tryd.underlying27 rfl hI rfl
    · rw [if_neg (fun h => hpl h.2)]
      have HEq' : Hid (∀ v1 W, Prts W v1 ps → w.grownBy W none → Calls Tryd.prog 20 #[v1, .slice av nv cv] W fun e w' => e = .returned (.bool false) ∧ W.grownBy w' none) := Lib.hid (fun v1 W h1 hg => by have := HEq.out v1 W h1 hg; rwa [decide_eq_false hpl] at this)
      clear HEq HD hpl
      go_enter Tryd.func6, Tryd.ntmps6
      go_wp2_with (first
        | (go_at_call 15; with_reducible refine (HF1.out _ HG0b.out).mono ?_; rintro e wa ⟨rfl, hga⟩; have HA := Lib.hid (grown_trans HG0b.out hga); have HGA := Lib.hid (grown_trans HG0.out hga); have HBA := Lib.hid (hold_blk HB0.out hga); have HCA := Lib.hid ((World.cell?_of_block (hga.block w.heap.size HW0.out (by simp))).trans HC0.out); have HWA := Lib.hid (Nat.lt_of_lt_of_le HW0.out hga.size); clear hga)
        | (go_at_call 18; with_reducible refine (HK.out _ HGA.out).mono ?_; rintro e w2 ⟨rfl, rfl⟩)
        | (go_at_call 15; with_reducible refine (HF2.out _ HA.out).mono ?_; rintro e wb ⟨rfl, hgb⟩; have HAB := Lib.hid (grown_trans HA.out hgb); have HGB := Lib.hid (grown_trans HGA.out hgb); have HBB := Lib.hid (hold_blk HBA.out hgb); have HCB := Lib.hid ((World.cell?_of_block (hgb.block w.heap.size HWA.out (by simp))).trans HCA.out); have HWB := Lib.hid (Nat.lt_of_lt_of_le HWA.out hgb.size); clear hgb)
        | (go_at_call 15; with_reducible refine (HF3.out _ HAB.out).mono ?_; rintro e wc ⟨rfl, hgc⟩; have HGC := Lib.hid (grown_trans HGB.out hgc); have HBC := Lib.hid (hold_blk HBB.out hgc); have HCC := Lib.hid ((World.cell?_of_block (hgc.block w.heap.size HWB.out (by simp))).trans HCB.out); have HWC := Lib.hid (Nat.lt_of_lt_of_le HWB.out hgc.size); have HSC := Lib.hid (alloc_at wc (.cells #[.int .i64 kx, .string x2, .string x3] 27)); clear hgc)
        | (refine wpList_load_row (by rfl) 27 (.tmp 5) (by rfl) wc.heap.size (by rfl) 27 #[.int .i64 kx, .string x2, .string x3] (0, 0) _ HSC.out Tryd.underlying27 rfl hI ?_)
        | (go_at_call 19; refine (HR2'.out _ (grown_alloc HGC.out _)).mono ?_; rintro e wd ⟨v1, rfl, hgd, ho⟩; have HGD := Lib.hid (grown_trans (grown_alloc HGC.out _) hgd); have HBD := Lib.hid (hold_blk (alloc_keep (o := .cells #[.int .i64 kx, .string x2, .string x3] 27) HBC.out) hgd); have HSD := Lib.hid (hold_blk HSC.out hgd); have HO := Lib.hid (Prts.own ho rfl); have c0 := (World.cell?_of_block (hgd.block w.heap.size (by have := HWC.out; rw [alloc_size]; omega) (by simp))).trans ((World.cell?_of_block ((World.grownBy_alloc wc (.cells #[.int .i64 kx, .string x2, .string x3] 27) none).block w.heap.size HWC.out (by simp))).trans HCC.out); clear hgd ho)
        | (go_at_call 20; refine (HEq'.out _ _ HO.out HGD.out).mono ?_; rintro e we ⟨rfl, hge⟩; have HGE := Lib.hid (grown_trans HGD.out hge); have HBE := Lib.hid (hold_blk HBD.out hge); have HSE := Lib.hid (hold_blk HSD.out hge); clear hge c0))
      have he := HEr.out _ HGE.out
      have y0 := free_blk HBE.out 0
      have y1 := free_blk HBE.out 1
      have y2 := free_blk HBE.out 2
      have z0 := cell_blk HBE.out 0 rfl
      have z1 := cell_blk HBE.out 1 rfl
      have z2 := cell_blk HBE.out 2 rfl
      have hz : 0 < w.heap.size := HEz.out
      have hz1 : w.heap.size + 1 ≠ 0 := by omega
      have hz2 : 0 ≠ w.heap.size + 1 := by omega
      go_region
      go_wp2
      refine bodyPost_ret (v := .tuple #[.agg #[.int .i64 0, .string ⟨#[]⟩, .string ⟨#[]⟩], errV A 9]) ?_ rfl ⟨rfl, ?_⟩
      · exact results_rowT Tryd.results6 _ _ (w.heap.size + 1) _ _ (0, 0) _ _ rfl (set3 HBE.out) Tryd.underlying27 rfl hI rfl
      · exact grown_drewN (grown_set (grown_set (grown_set HGE.out (.inl (Nat.le_succ _)) _) (.inl (Nat.le_succ _)) _) (.inl (Nat.le_succ _)) _) 1
end Go.Proofs.YtepjjgplnmkjgaaDoor
