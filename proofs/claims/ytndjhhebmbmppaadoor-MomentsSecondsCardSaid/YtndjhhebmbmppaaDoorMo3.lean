/- The walk of the law MomentsSeconds, over what is asked of package moments. -/
import Derived.Test.YtndjhhebmbmppaaDoorMo2
namespace Go.Proofs.YtndjhhebmbmppaaDoor
open Go.RowKit

theorem stored {W1 w2 : World} {z DC : Array Value} {T : TypeId} (hg : W1.grownBy w2 none) : W1.grownBy ((w2.alloc (.cells z T (0, 0))).setRow w2.heap.size DC) none ∧ w2.grownBy ((w2.alloc (.cells z T (0, 0))).setRow w2.heap.size DC) none ∧ ((w2.alloc (.cells z T (0, 0))).setRow w2.heap.size DC).heap[w2.heap.size]? = some (.cells DC T (0, 0)) :=
  ⟨grown_setRow (grown_alloc hg _) hg.size _, grown_setRow (World.grownBy_alloc _ _ _) (Nat.le_refl _) _, setRow_heap _ _ _ _ _ _ (alloc_at w2 _)⟩

set_option maxRecDepth 100000 in
set_option maxHeartbeats 2000000 in
theorem momentsSeconds_any (A : Nat → Addr) (d : Cal.DI) (hd : inI d.Y ∧ inI d.M ∧ inI d.D ∧ inI d.h ∧ inI d.mi ∧ inI d.s) (w : World) (hE : AllErrs w A) (hP : MoPut A w) (hW : MoWd w) (hO : MoOf A w) (hS : MoSec A w) :
    Calls Tryd.prog 4 #[dV d] w fun e w' => e = .returned (.bool true) ∧ w.grownBy w' none := by
  have HAl := Lib.hid (fun W (hW' : w.grownBy W none) => alive6_any A W (fun t W' a b => hP t W' a (grown_trans hW' b)) (fun t W' a b => hW t W' a (grown_trans hW' b)))
  have HI1 : Hid ((Tryd.prog.info? 24).map (·.size) = some 6) := Lib.hid (by kernel_rfl)
  have HI2 : Hid ((Tryd.prog.info? 34).map (·.size) = some 6) := Lib.hid (by kernel_rfl)
  have hSd := fun W hW => hS d W hd hW
  have hRi := fun W => refRight_any d W
  obtain ⟨DC, hDC⟩ : ∃ DC : Array Value, DC = #[.int .i64 d.Y, .int .i64 d.M, .int .i64 d.D, .int .i64 d.h, .int .i64 d.mi, .int .i64 d.s] := ⟨_, rfl⟩
  have HDs : Hid (DC.size = 6 ∧ DC.all (·.oneCell') = true) := Lib.hid (by rw [hDC]; exact ⟨rfl, by simp [Value.oneCell']⟩)
  have hdv : dV d = .agg DC := by rw [hDC]
  have HEq : Hid (∀ x y w, (do eqGuard .eql 24 x y (.agg DC) (.agg DC); binOp .eql 24 (.agg DC) (.agg DC) : Sem Value).run Tryd.prog w = .ok (.bool true) w) := Lib.hid (fun x y w => by rw [hDC]; exact eqDate x y _ _ _ _ _ _ w)
  have HE1 := Lib.hid (fun W hW => num_of A 1 (by decide) W (hE.grown (w' := W) hW))
  obtain ⟨W1, hW1⟩ : ∃ W1 : World, W1 = w.alloc (.cells #[.int .i64 d.Y, .int .i64 d.M, .int .i64 d.D, .int .i64 d.h, .int .i64 d.mi, .int .i64 d.s] 24) := ⟨_, rfl⟩
  have HGW : Hid (w.grownBy W1 none) := Lib.hid (by rw [hW1]; exact World.grownBy_alloc _ _ _)
  have HR1 : Hid (∀ W, W1.grownBy W none → W.heap[w.heap.size]? = some (.cells DC 24 (0, 0))) := Lib.hid (fun W hW => by
    have h : W1.heap[w.heap.size]? = some (.cells DC 24 (0, 0)) := by rw [hW1, hDC]; exact alloc_at w _
    exact (hW.block _ (blk_lt h) (by simp)).trans h)
  have HW1 := Lib.hid hW1
  rw [hdv] at hSd hRi
  have e1 : errOf A 1 = errV A 1 := rfl
  rw [e1] at HE1
  clear hW1 hP hW hS hE e1
  by_cases hr : Cal.rightI d = true
  · obtain ⟨hR, hdd⟩ := Cal.right_of hr
    have hle := Cal.sec_le hR
    have hof := Cal.of_sec hR
    have hrs := fun W => refSeconds_any d.toD hR W
    rw [hdd, hdv] at hrs
    obtain ⟨T, hT⟩ : ∃ T, T = Cal.sec d.toD := ⟨_, rfl⟩
    simp only [if_pos hr] at hSd
    rw [← hT] at hle hof hrs hSd
    have hm : isM (T : Int) := by unfold isM; omega
    have hOf := fun W hW => hO (T : Int) W (by unfold inI; omega) hW
    simp only [if_pos hm, Int.toNat_natCast] at hOf
    rw [hof, hdd, hdv] at hOf
    rw [hr] at hRi
    have HOf := Lib.hid hOf
    have HSd := Lib.hid hSd
    have HRi := Lib.hid hRi
    have HRS := Lib.hid hrs
    clear hOf hSd hRi hrs hO hm hof hle hR hdd hT hdv hr hDC hd
    obtain ⟨Y, M, D, h, mi, s⟩ := d
    simp only at HW1
    go_enter Tryd.func4, Tryd.ntmps4
    go_wp2_with (first
      | (go_at_call 7; rw [← HW1.out]; refine (HAl.out _ HGW.out).mono ?_; rintro e w1 ⟨rfl, hg1⟩; have HG1 := Lib.hid hg1; clear hg1)
      | (go_at_call 13; refine (HSd.out _ (grown_trans HGW.out HG1.out)).mono ?_; rintro e w2 ⟨hg2, rfl⟩; have HG2 := Lib.hid (grown_trans HG1.out hg2); clear hg2)
      | (refine wpList_store_row (by rfl) 34 (.tmp 5) (.tmp 15) (by rfl) w2.heap.size DC (by rfl) (by rfl) _ _ (alloc_at w2 _) (by rw [HDs.out.1]; exact HI2.out) (by rw [HDs.out.1]; rfl) HDs.out.2 ?_; obtain ⟨w3, hx⟩ : ∃ W : World, W = (w2.alloc (.cells #[.int .i64 0, .int .i64 0, .int .i64 0, .int .i64 0, .int .i64 0, .int .i64 0] 34)).setRow w2.heap.size DC := ⟨_, rfl⟩; rw [← hx]; have hst := stored (z := #[.int .i64 0, .int .i64 0, .int .i64 0, .int .i64 0, .int .i64 0, .int .i64 0]) (DC := DC) (T := 34) HG2.out; rw [← hx] at hst; have HG3 := Lib.hid hst.1; have HR5 := Lib.hid (fun (W : World) (hW : w3.grownBy W none) => (hW.block _ (blk_lt hst.2.2) (by simp)).trans hst.2.2); clear hst hx)
      | (go_at_call 16; refine (HRi.out _).mono ?_; rintro e w4 ⟨rfl, hg4⟩; have HG34 := Lib.hid hg4; have HG4 := Lib.hid (grown_trans HG3.out hg4); clear hg4)
      | (go_at_call 8; refine (HOf.out _ (grown_trans HGW.out HG4.out)).mono ?_; rintro e w5 ⟨hg5, rfl⟩; have HG35 := Lib.hid (grown_trans HG34.out hg5); have HG5 := Lib.hid (grown_trans HG4.out hg5); clear hg5)
      | (refine wpList_store_row (by rfl) 24 (.tmp 6) (.tmp 29) (by rfl) w5.heap.size DC (by rfl) (by rfl) _ _ (alloc_at w5 _) (by rw [HDs.out.1]; exact HI1.out) (by rw [HDs.out.1]; rfl) HDs.out.2 ?_; obtain ⟨w6, hx⟩ : ∃ W : World, W = (w5.alloc (.cells #[.int .i64 0, .int .i64 0, .int .i64 0, .int .i64 0, .int .i64 0, .int .i64 0] 24)).setRow w5.heap.size DC := ⟨_, rfl⟩; rw [← hx]; have hst := stored (z := #[.int .i64 0, .int .i64 0, .int .i64 0, .int .i64 0, .int .i64 0, .int .i64 0]) (DC := DC) (T := 24) HG5.out; rw [← hx] at hst; have HG6 := Lib.hid hst.1; have HG36 := Lib.hid (grown_trans HG35.out hst.2.1); have HR6 := Lib.hid (fun (W : World) (hW : w6.grownBy W none) => (hW.block _ (blk_lt hst.2.2) (by simp)).trans hst.2.2); clear hst hx)
      | (go_at_call 17; refine (HRS.out _).mono ?_; rintro e w7 ⟨rfl, hg7⟩; have HG67 := Lib.hid hg7; have HG7 := Lib.hid (grown_trans HG6.out hg7); clear hg7)
      | (refine wpList_load_rowG (by rfl) 24 (.tmp 6) (by rfl) w5.heap.size (by rfl) _ DC (0, 0) _ (HR6.out _ HG67.out) Tryd.underlying24 (by rfl) (by rw [HDs.out.1]; exact HI1.out) ?_)
      | (refine wpList_load_rowG (by rfl) 24 (.tmp 1) (by rfl) w.heap.size (by rfl) _ DC (0, 0) _ (HR1.out _ HG7.out) Tryd.underlying24 (by rfl) (by rw [HDs.out.1]; exact HI1.out) ?_)
      | (refine wpList_load_row (by rfl) 24 (.tmp 1) (by rfl) w.heap.size (by rfl) _ DC (0, 0) _ (HR1.out _ HG2.out) Tryd.underlying24 (by rfl) (by rw [HDs.out.1]; exact HI1.out) ?_)
      | (refine wpList_load_row (by rfl) 24 (.tmp 1) (by rfl) w.heap.size (by rfl) _ DC (0, 0) _ (HR1.out _ HG1.out) Tryd.underlying24 (by rfl) (by rw [HDs.out.1]; exact HI1.out) ?_)
      | (refine wpList_load_rowG (by rfl) 34 (.tmp 5) (by rfl) w2.heap.size (by rfl) _ DC (0, 0) _ (HR5.out _ HG36.out) Tryd.underlying34 (by rfl) (by rw [HDs.out.1]; exact HI2.out) ?_)
      | (refine wpList_load_row (by rfl) 34 (.tmp 5) (by rfl) w2.heap.size (by rfl) _ DC (0, 0) _ (HR5.out _ (grown_refl _ _)) Tryd.underlying34 (by rfl) (by rw [HDs.out.1]; exact HI2.out) ?_)
      | (refine wpList_cmpG (by rfl) true (eqlAgg_val (t := 24) (x := .tmp 44) (y := .tmp 45) (u := .agg DC) (by rfl) (by rfl) (by rfl) (HEq.out _ _)) ?_))
    go_ret
    exact ⟨rfl, grown_trans HGW.out HG7.out⟩
  · have hrf : Cal.rightI d = false := by simpa using hr
    simp only [if_neg hr] at hSd
    rw [hrf] at hRi
    have HSd := Lib.hid hSd
    have HRi := Lib.hid hRi
    clear hSd hRi hO hdv hr hrf hDC hd
    obtain ⟨Y, M, D, h, mi, s⟩ := d
    simp only at HW1
    go_enter Tryd.func4, Tryd.ntmps4
    go_wp2_with (first
      | (go_at_call 7; rw [← HW1.out]; refine (HAl.out _ HGW.out).mono ?_; rintro e w1 ⟨rfl, hg1⟩; have HG1 := Lib.hid hg1; clear hg1)
      | (go_at_call 13; refine (HSd.out _ (grown_trans HGW.out HG1.out)).mono ?_; rintro e w2 ⟨hg2, rfl⟩; have HG2 := Lib.hid (grown_trans HG1.out hg2); clear hg2)
      | (refine wpList_store_row (by rfl) 34 (.tmp 5) (.tmp 15) (by rfl) w2.heap.size DC (by rfl) (by rfl) _ _ (alloc_at w2 _) (by rw [HDs.out.1]; exact HI2.out) (by rw [HDs.out.1]; rfl) HDs.out.2 ?_; obtain ⟨w3, hx⟩ : ∃ W : World, W = (w2.alloc (.cells #[.int .i64 0, .int .i64 0, .int .i64 0, .int .i64 0, .int .i64 0, .int .i64 0] 34)).setRow w2.heap.size DC := ⟨_, rfl⟩; rw [← hx]; have hst := stored (z := #[.int .i64 0, .int .i64 0, .int .i64 0, .int .i64 0, .int .i64 0, .int .i64 0]) (DC := DC) (T := 34) HG2.out; rw [← hx] at hst; have HG3 := Lib.hid hst.1; have HR5 := Lib.hid (fun (W : World) (hW : w3.grownBy W none) => (hW.block _ (blk_lt hst.2.2) (by simp)).trans hst.2.2); clear hst hx)
      | (go_at_call 16; refine (HRi.out _).mono ?_; rintro e w4 ⟨rfl, hg4⟩; have HG34 := Lib.hid hg4; have HG4 := Lib.hid (grown_trans HG3.out hg4); clear hg4)
      | (go_at_call 10; refine (HE1.out _ (grown_trans HGW.out HG4.out)).mono ?_; rintro e w5 ⟨rfl, hg5⟩; have HG5 := Lib.hid (grown_trans HG4.out hg5); clear hg5)
      | (refine wpList_load_row (by rfl) 24 (.tmp 1) (by rfl) w.heap.size (by rfl) _ DC (0, 0) _ (HR1.out _ HG2.out) Tryd.underlying24 (by rfl) (by rw [HDs.out.1]; exact HI1.out) ?_)
      | (refine wpList_load_row (by rfl) 24 (.tmp 1) (by rfl) w.heap.size (by rfl) _ DC (0, 0) _ (HR1.out _ HG1.out) Tryd.underlying24 (by rfl) (by rw [HDs.out.1]; exact HI1.out) ?_)
      | (refine wpList_load_row (by rfl) 34 (.tmp 5) (by rfl) w2.heap.size (by rfl) _ DC (0, 0) _ (HR5.out _ (grown_refl _ _)) Tryd.underlying34 (by rfl) (by rw [HDs.out.1]; exact HI2.out) ?_))
    go_ret
    exact ⟨rfl, grown_trans HGW.out HG5.out⟩
end Go.Proofs.YtndjhhebmbmppaaDoor
