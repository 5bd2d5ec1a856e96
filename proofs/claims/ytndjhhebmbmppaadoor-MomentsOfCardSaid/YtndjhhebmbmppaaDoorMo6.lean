/- The walk of the law MomentsOf, over what is asked of package moments. -/
import Derived.Test.YtndjhhebmbmppaaDoorMo3
import Derived.Test.YtndjhhebmbmppaaDoorMo5
import Derived.Test.YtndjhhebmbmppaaDoorMo4
namespace Go.Proofs.YtndjhhebmbmppaaDoor
open Go.RowKit

theorem wrapM (n : Nat) (h : n < 1000000000) : IntKind.i64.wrap (n : Int) = n := by
  simp only [IntKind.wrap, IntKind.bits, IntKind.signed]
  simp
  omega

set_option maxRecDepth 100000 in
set_option maxHeartbeats 2000000 in
theorem momentsOf_any (A : Nat → Addr) (t : Int) (ht : inI t) (w : World) (hE : AllErrs w A) (hP : MoPut A w) (hW : MoWd w) (hO : MoOf A w) (hS : MoSec A w) (hG : MoGet A w) :
    Calls Tryd.prog 3 #[.int .i64 t] w fun e w' => e = .returned (.bool true) ∧ w.grownBy w' none := by
  have HAl := Lib.hid (alive6_any A w hP hW)
  have HI1 : Hid ((Tryd.prog.info? 24).map (·.size) = some 6) := Lib.hid (by kernel_rfl)
  have HI2 : Hid ((Tryd.prog.info? 34).map (·.size) = some 6) := Lib.hid (by kernel_rfl)
  have HE1 := Lib.hid (fun W hW => num_of A 1 (by decide) W (hE.grown (w' := W) hW))
  have e1 : errOf A 1 = errV A 1 := rfl
  rw [e1] at HE1
  have hof := fun W hW => hO t W ht hW
  have hpt := fun W hW => hP t W ht hW
  have hwd := fun W hg => hW t W ht hg
  by_cases hm : isM t
  · obtain ⟨m1, m2⟩ := id hm
    obtain ⟨T, hT⟩ : ∃ T : Nat, t = (T : Int) := ⟨t.toNat, by omega⟩
    simp only [if_pos hm] at hof hpt hwd
    subst hT
    rw [Int.toNat_natCast] at hof hpt
    have hT2 : T ≤ 253402300799 := by omega
    obtain ⟨hr, hsc⟩ := Cal.of_right hT2
    have hgt := Cal.get_text hr
    have hri := Cal.rightI_of hr
    have hro := fun W => refOf_any T hT2 W
    have htx := fun W => refMText_any (Cal.of T) hr W
    have hlt := cal_text_lt hT2
    have hlen := Cal.text_len (Cal.of T)
    obtain ⟨d, hd⟩ : ∃ d, d = Cal.of T := ⟨_, rfl⟩
    rw [← hd] at hof hpt hr hsc hgt hri hro htx hlt hlen
    have hse := fun W hW => hS d.toI W (by
      obtain ⟨⟨a1, a2⟩, ⟨a3, a4⟩, ⟨a5, a6⟩, a7, a8, a9⟩ := hr
      have a10 := (Cal.days_pos (y := d.Y) a3 a4).2
      simp only [Cal.Date.toI, inI]
      omega) hW
    simp only [if_pos hri.1, hri.2] at hse
    rw [hsc] at hgt hse
    obtain ⟨B, hB⟩ : ∃ B, B = Cal.text d := ⟨_, rfl⟩
    rw [← hB] at hpt hgt htx hlt hlen
    have hge := fun v W hW hb => hG v B W hW hb (by omega)
    simp only [hgt, moGot] at hge
    obtain ⟨DC, hDC⟩ : ∃ DC : Array Value, DC = #[.int .i64 d.toI.Y, .int .i64 d.toI.M, .int .i64 d.toI.D, .int .i64 d.toI.h, .int .i64 d.toI.mi, .int .i64 d.toI.s] := ⟨_, rfl⟩
    have HDs : Hid (DC.size = 6 ∧ DC.all (·.oneCell') = true) := Lib.hid (by rw [hDC]; exact ⟨rfl, by simp [Value.oneCell']⟩)
    have hdv : dV d.toI = .agg DC := by rw [hDC]
    have HEq : Hid (∀ x y w, (do eqGuard .eql 34 x y (.agg DC) (.agg DC); binOp .eql 34 (.agg DC) (.agg DC) : Sem Value).run Tryd.prog w = .ok (.bool true) w) := Lib.hid (fun x y w => by rw [hDC]; exact eqDateR x y _ _ _ _ _ _ w)
    rw [hdv] at hof hro htx hse
    have HOf := Lib.hid hof
    have HPt := Lib.hid hpt
    have HWd := Lib.hid hwd
    have HRo := Lib.hid hro
    have HTx := Lib.hid htx
    have HSe := Lib.hid hse
    have HGe := Lib.hid hge
    have HBl := Lib.hid hlt
    have HQ1 : Hid (IntKind.i64.wrap ((T : Int).tdiv 86400) = (T : Int) / 86400) := Lib.hid (by
      rw [Int.tdiv_eq_ediv_of_nonneg (by omega), show (T : Int) / 86400 = ((T / 86400 : Nat) : Int) by omega]
      exact wrapM _ (by omega))
    have HQ2 : Hid (IntKind.i64.wrap ((T : Int) / 86400 + 4) = (T : Int) / 86400 + 4) := Lib.hid (by
      rw [show (T : Int) / 86400 + 4 = ((T / 86400 + 4 : Nat) : Int) by omega]
      exact wrapM _ (by omega))
    have HQ3 : Hid (((T : Int) / 86400 + 4).tmod 7 = ((T : Int) / 86400 + 4) % 7) := Lib.hid (Int.tmod_eq_emod_of_nonneg (by omega))
    clear hof hpt hwd hro htx hse hge hlt hlen hdv hDC hB hd hgt hri hr hsc hm hO hP hW hS hG hE e1 ht
    go_enter Tryd.func3, Tryd.ntmps3
    go_wp2_with (first
      | (go_at_call 7; refine (HAl.out).mono ?_; rintro e w1 ⟨rfl, hg1⟩; have HG1 := Lib.hid hg1; clear hg1)
      | (go_at_call 8; refine (HOf.out _ HG1.out).mono ?_; rintro e w2 ⟨hg2, rfl⟩; have HG2 := Lib.hid (grown_trans HG1.out hg2); clear hg2)
      | (refine wpList_store_row (by rfl) 24 (.tmp 3) (.tmp 17) (by rfl) w2.heap.size DC (by rfl) (by rfl) _ _ (alloc_at w2 _) (by rw [HDs.out.1]; exact HI1.out) (by rw [HDs.out.1]; rfl) HDs.out.2 ?_; obtain ⟨w3, hx⟩ : ∃ W : World, W = (w2.alloc (.cells #[.int .i64 0, .int .i64 0, .int .i64 0, .int .i64 0, .int .i64 0, .int .i64 0] 24)).setRow w2.heap.size DC := ⟨_, rfl⟩; rw [← hx]; have hst := stored (z := #[.int .i64 0, .int .i64 0, .int .i64 0, .int .i64 0, .int .i64 0, .int .i64 0]) (DC := DC) (T := 24) HG2.out; rw [← hx] at hst; have HG3 := Lib.hid hst.1; have HR3 := Lib.hid (fun (W : World) (hW : w3.grownBy W none) => (hW.block _ (blk_lt hst.2.2) (by simp)).trans hst.2.2); clear hst hx)
      | (go_at_call 9; refine (HPt.out _ HG3.out).mono ?_; rintro e w4 ⟨hg4, a4, c4, rfl, hb4⟩; have HG34 := Lib.hid hg4; have HG4 := Lib.hid (grown_trans HG3.out hg4); have HB4 := Lib.hid (fun (W : World) (hW : w4.grownBy W none) => hb4.grown hW); clear hg4 hb4)
      | (go_at_call 12; refine (HRo.out _).mono ?_; rintro e w5 ⟨rfl, hg5⟩; have HG45 := Lib.hid hg5; have HG5 := Lib.hid (grown_trans HG4.out hg5); clear hg5)
      | (refine wpList_store_row (by rfl) 34 (.tmp 7) (.tmp 54) (by rfl) w5.heap.size DC (by rfl) (by rfl) _ _ (alloc_at w5 _) (by rw [HDs.out.1]; exact HI2.out) (by rw [HDs.out.1]; rfl) HDs.out.2 ?_; obtain ⟨w6, hx⟩ : ∃ W : World, W = (w5.alloc (.cells #[.int .i64 0, .int .i64 0, .int .i64 0, .int .i64 0, .int .i64 0, .int .i64 0] 34)).setRow w5.heap.size DC := ⟨_, rfl⟩; rw [← hx]; have hst := stored (z := #[.int .i64 0, .int .i64 0, .int .i64 0, .int .i64 0, .int .i64 0, .int .i64 0]) (DC := DC) (T := 34) HG5.out; rw [← hx] at hst; have HG6 := Lib.hid hst.1; have HG46 := Lib.hid (grown_trans HG45.out hst.2.1); have HR7 := Lib.hid (fun (W : World) (hW : w6.grownBy W none) => (hW.block _ (blk_lt hst.2.2) (by simp)).trans hst.2.2); clear hst hx)
      | (go_at_call 13; refine (HSe.out _ HG6.out).mono ?_; rintro e w7 ⟨hg7, rfl⟩; have HG67 := Lib.hid hg7; have HG7 := Lib.hid (grown_trans HG6.out hg7); clear hg7)
      | (go_at_call 14; refine (HGe.out _ _ HG7.out (HB4.out _ (grown_trans HG46.out HG67.out))).mono ?_; rintro e w8 ⟨hg8, rfl⟩; have HG68 := Lib.hid (grown_trans HG67.out hg8); have HG8 := Lib.hid (grown_trans HG7.out hg8); clear hg8)
      | (refine wpList_load_row (by rfl) 24 (.tmp 3) (by rfl) w2.heap.size (by rfl) _ DC (0, 0) _ (HR3.out _ (grown_trans HG34.out HG46.out)) Tryd.underlying24 (by rfl) (by rw [HDs.out.1]; exact HI1.out) ?_))
    obtain ⟨S, hS⟩ : ∃ S, S = strOf B := ⟨_, rfl⟩
    refine mo_region _ _ _ 15 _ _ (T : Int) ((T : Int) / 86400) ((T : Int) / 86400 + 4) (((T : Int) / 86400 + 4) % 7) DC S B w8 _ _ rfl rfl rfl rfl rfl rfl rfl rfl rfl rfl rfl (fun W hW => (HTx.out W).mono (fun e w' ⟨v, h1, h2⟩ => ⟨v, h1, h2.grown, Bytes.own h2.own HBl.out⟩)) (fun W hW => (HWd.out W (grown_trans HG8.out hW)).mono (fun e w' ⟨h1, h2⟩ => ⟨_, h2, h1, rfl⟩)) (fun W hW => by rw [hS]; exact conv_bytes (by have := HB4.out _ (grown_trans HG46.out (grown_trans HG68.out hW)); exact this) _ 5 _ Tryd.underlying29 Tryd.underlying5 Tryd.underlying9) (fun W x hx => by rw [hS]; exact conv_bytes hx _ 5 _ Tryd.underlying29 Tryd.underlying5 Tryd.underlying9)
      (fun W hW => HR3.out W (grown_trans HG34.out (grown_trans HG46.out (grown_trans HG68.out hW)))) (fun W hW => HR7.out W (grown_trans HG68.out hW)) (by rw [HDs.out.1]; exact HI1.out) (by rw [HDs.out.1]; exact HI2.out) HEq.out HQ1.out HQ2.out HQ3.out ⟨rfl, rfl, rfl, Nat.le_refl _, fun _ _ _ => rfl⟩ (fun us w9 hg9 => ?_)
    simp only [fill_cons, fill_nil, Act.put, List.setIfInBounds_toArray, List.set_cons_succ, List.set_cons_zero]
    have HG9 := Lib.hid (grown_trans HG8.out hg9)
    clear hg9
    go_wp2
    go_ret
    exact ⟨rfl, HG9.out⟩
  · simp only [if_neg hm] at hof hpt hwd
    have HOf := Lib.hid hof
    have HPt := Lib.hid hpt
    have HWd := Lib.hid hwd
    obtain ⟨DC, hDC⟩ : ∃ DC : Array Value, DC = #[.int .i64 0, .int .i64 0, .int .i64 0, .int .i64 0, .int .i64 0, .int .i64 0] := ⟨_, rfl⟩
    have HDs : Hid (DC.size = 6 ∧ DC.all (·.oneCell') = true) := Lib.hid (by rw [hDC]; exact ⟨rfl, by simp [Value.oneCell']⟩)
    have HDC := Lib.hid hDC
    rw [show noDate = .agg DC by rw [hDC]; rfl] at HOf
    have hcase : t < 0 ∨ (0 ≤ t ∧ 253402300799 < t) := by unfold isM at hm; omega
    clear hof hpt hwd hm hO hP hW hS hG hE e1 ht hDC
    rcases hcase with h1 | ⟨h1, h2⟩
    all_goals
      go_enter Tryd.func3, Tryd.ntmps3
      go_wp2_with (first
        | (go_at_call 7; refine (HAl.out).mono ?_; rintro e w1 ⟨rfl, hg1⟩; have HG1 := Lib.hid hg1; clear hg1)
        | (go_at_call 8; refine (HOf.out _ HG1.out).mono ?_; rintro e w2 ⟨hg2, rfl⟩; have HG2 := Lib.hid (grown_trans HG1.out hg2); clear hg2)
        | (refine wpList_store_row (by rfl) 24 (.tmp 3) (.tmp 17) (by rfl) w2.heap.size DC (by rfl) (by rfl) _ _ (alloc_at w2 _) (by rw [HDs.out.1]; exact HI1.out) (by rw [HDs.out.1]; rfl) HDs.out.2 ?_; obtain ⟨w3, hx⟩ : ∃ W : World, W = (w2.alloc (.cells #[.int .i64 0, .int .i64 0, .int .i64 0, .int .i64 0, .int .i64 0, .int .i64 0] 24)).setRow w2.heap.size DC := ⟨_, rfl⟩; rw [← hx]; have hst := stored (z := #[.int .i64 0, .int .i64 0, .int .i64 0, .int .i64 0, .int .i64 0, .int .i64 0]) (DC := DC) (T := 24) HG2.out; rw [← hx] at hst; have HG3 := Lib.hid hst.1; have HR3 := Lib.hid (fun (W : World) (hW : w3.grownBy W none) => (hW.block _ (blk_lt hst.2.2) (by simp)).trans hst.2.2); clear hst hx)
        | (go_at_call 9; refine (HPt.out _ HG3.out).mono ?_; rintro e w4 ⟨hg4, a4, c4, rfl⟩; have HG34 := Lib.hid hg4; have HG4 := Lib.hid (grown_trans HG3.out hg4); clear hg4)
        | (refine wpList_load_row (by rfl) 24 (.tmp 3) (by rfl) w2.heap.size (by rfl) _ DC (0, 0) _ (HR3.out _ HG34.out) Tryd.underlying24 (by rfl) (by rw [HDs.out.1]; exact HI1.out) ?_; rw [HDC.out])
        | (go_at_call 10; with_reducible refine (HE1.out _ HG4.out).mono ?_; rintro e w5 ⟨rfl, hg5⟩; have HG5 := Lib.hid (grown_trans HG4.out hg5); clear hg5)
        | (go_at_call 10; with_reducible refine (HE1.out _ HG5.out).mono ?_; rintro e w6 ⟨rfl, hg6⟩; have HG6 := Lib.hid (grown_trans HG5.out hg6); clear hg6)
        | (go_at_call 11; refine (HWd.out _ HG6.out).mono ?_; rintro e w7 ⟨hg7, rfl⟩; have HG7 := Lib.hid (grown_trans HG6.out hg7); clear hg7))
      go_ret
      exact ⟨rfl, HG7.out⟩
end Go.Proofs.YtndjhhebmbmppaaDoor
