/- Package moments: isDate, Seconds, Weekday, Add. Package moments: Weekday, Add. Package moments: Of. -/
import Derived.Test.YtndjhhebmbmppaaDoorMk5
import Derived.Test.YtndjhhebmbmppaaDoorMk3
import Derived.Test.YtndjhhebmbmppaaDoorMo3
namespace Go.Proofs.YtndjhhebmbmppaaDoor
open Go.RowKit
set_option linter.unusedVariables false

theorem rightI_in (Y M D h mi s : Int) : Cal.rightI ⟨Y, M, D, h, mi, s⟩ = (((inB 1970 9999 [Y] && inB 1 ((Cal.daysI Y M : Nat) : Int) [D]) && inB 0 23 [h]) && inB 0 59 [mi, s]) := by
  have hdd : (M < 1 ∨ 12 < M) → Cal.daysI Y M = 0 := fun h => by rw [Cal.daysI, if_pos h]
  rw [Bool.eq_iff_iff, Cal.rightI_iff, inB_one, inB_one, inB_one, inB_two]
  simp only [Bool.and_eq_true, decide_eq_true_eq]
  generalize Cal.daysI Y M = dd at *
  omega

set_option maxRecDepth 100000 in
set_option maxHeartbeats 1000000 in
theorem isDate_any (d : Cal.DI) (w : World) (hLn : Lens w) : Calls Tryd.prog 30 #[dV d] w fun e w' => e = .returned (.bool (Cal.rightI d)) ∧ w.grownBy w' none := by
  have HD := Lib.hid (fun W hW => mDays_any d.Y d.M W (hLn.grown (w' := W) hW))
  obtain ⟨Y, M, D, h, mi, s⟩ := d
  have HR := Lib.hid (rightI_in Y M D h mi s)
  have HC := Lib.hid (fun W hg => dCell (W := W) (d := ⟨Y, M, D, h, mi, s⟩) (alloc_at w (.cells #[.int .i64 Y, .int .i64 M, .int .i64 D, .int .i64 h, .int .i64 mi, .int .i64 s] 24)) hg)
  generalize Cal.daysI Y M = dd at *
  have HG0 := Lib.hid (World.grownBy_alloc w (.cells #[.int .i64 Y, .int .i64 M, .int .i64 D, .int .i64 h, .int .i64 mi, .int .i64 s] 24) none)
  go_enter Tryd.func30, Tryd.ntmps30
  go_wp2
  refine idt_region _ w.heap.size Y M D h mi s dd _ _ _ _ (w.alloc (.cells #[.int .i64 Y, .int .i64 M, .int .i64 D, .int .i64 h, .int .i64 mi, .int .i64 s] 24)) _ _ rfl rfl (fun W hW => HC.out W hW) (fun W hW => HD.out W (grown_trans HG0.out hW)) rfl rfl rfl rfl ⟨rfl, rfl, rfl, Nat.le_refl _, fun _ _ _ => rfl⟩ (fun us w3 hg3 => ?_)
  simp only [fill_cons, fill_nil, Act.put, List.setIfInBounds_toArray, List.set_cons_succ, List.set_cons_zero]
  have HG := Lib.hid (grown_trans HG0.out hg3)
  rw [← HR.out]
  clear hg3
  go_wp2
  go_ret
  exact ⟨rfl, HG.out⟩

theorem clockI {N h mi s : Int} (h0 : 0 ≤ N ∧ N ≤ 3000000) (h1 : 0 ≤ h ∧ h ≤ 23) (h2 : 0 ≤ mi ∧ mi ≤ 59) (h3 : 0 ≤ s ∧ s ≤ 59) :
    IntKind.i64.wrap (N * 86400) = N * 86400 ∧ IntKind.i64.wrap (h * 3600) = h * 3600 ∧ IntKind.i64.wrap (N * 86400 + h * 3600) = N * 86400 + h * 3600 ∧ IntKind.i64.wrap (mi * 60) = mi * 60 ∧ IntKind.i64.wrap (N * 86400 + h * 3600 + mi * 60) = N * 86400 + h * 3600 + mi * 60 ∧ IntKind.i64.wrap (N * 86400 + h * 3600 + mi * 60 + s) = N * 86400 + h * 3600 + mi * 60 + s := by
  simp only [IntKind.wrap, IntKind.bits, IntKind.signed]
  simp
  omega

set_option maxRecDepth 100000 in
set_option maxHeartbeats 1000000 in
theorem mSec_any (A : Nat → Addr) (W0 : World) (hE : AllErrs W0 A) (hL : Lens W0) : MoSec A W0 := by
  intro d w _ hg
  have HIs := Lib.hid (fun W hW => isDate_any d W (hL.grown (grown_trans hg hW)))
  have HErr := Lib.hid (fun W hW => err_range (hE.grown (w' := W) (grown_trans hg hW)))
  have HI1 : Hid ((Tryd.prog.info? 24).map (·.size) = some 6) := Lib.hid (by kernel_rfl)
  obtain ⟨DC, hDC⟩ : ∃ DC : Array Value, DC = #[.int .i64 d.Y, .int .i64 d.M, .int .i64 d.D, .int .i64 d.h, .int .i64 d.mi, .int .i64 d.s] := ⟨_, rfl⟩
  have HDs : Hid (DC.size = 6) := Lib.hid (by rw [hDC]; rfl)
  have hdv : dV d = .agg DC := by rw [hDC]
  obtain ⟨W1, hW1⟩ : ∃ W1 : World, W1 = w.alloc (.cells DC 24) := ⟨_, rfl⟩
  have HGW : Hid (w.grownBy W1 none) := Lib.hid (by rw [hW1]; exact World.grownBy_alloc _ _ _)
  have HR1 : Hid (∀ W, W1.grownBy W none → W.heap[w.heap.size]? = some (.cells DC 24 (0, 0))) := Lib.hid (fun W hW => by
    have h : W1.heap[w.heap.size]? = some (.cells DC 24 (0, 0)) := by rw [hW1]; exact alloc_at w _
    exact (hW.block _ (blk_lt h) (by simp)).trans h)
  have HR2 := Lib.hid (HR1.out W1 (grown_refl _ _))
  have HW1 := Lib.hid hW1
  have HDC := Lib.hid hDC
  by_cases hr : Cal.rightI d = true
  · obtain ⟨hrd, hti⟩ := Cal.right_of hr
    rw [if_pos hr]
    rw [hr] at HIs
    have HDd := Lib.hid (fun W hW => dayOfDate_any d.toD hrd W (hL.grown (grown_trans hg hW)))
    rw [hti, hdv] at HDd
    have hcl : ∀ W, W1.grownBy W none → ∀ k z, [d.Y, d.M, d.D, d.h, d.mi, d.s][k]? = some z → W.cell? ⟨w.heap.size, k, none⟩ = some (.int .i64 z) := fun W hW => by
      have h1 := HR1.out W hW
      rw [hDC] at h1
      exact dCell (d := d) h1 (grown_refl _ _)
    have HCl := Lib.hid hcl
    have hN : Cal.dayOf d.toD ≤ 3000000 := by
      have := Cal.sec_le hrd
      unfold Cal.sec at this
      omega
    have hrb := (Cal.rightI_iff d).1 hr
    have HK := Lib.hid (clockI (N := ((Cal.dayOf d.toD : Nat) : Int)) (h := d.h) (mi := d.mi) (s := d.s) ⟨by omega, by omega⟩ hrb.2.2.2.1 hrb.2.2.2.2.1 hrb.2.2.2.2.2)
    have HS : Hid (((Cal.dayOf d.toD : Nat) : Int) * 86400 + d.h * 3600 + d.mi * 60 + d.s = ((Cal.sec d.toD : Nat) : Int)) := Lib.hid (by
      unfold Cal.sec Cal.clock Cal.DI.toD
      simp only
      omega)
    rw [hdv] at HIs ⊢
    generalize ((Cal.sec d.toD : Nat) : Int) = SEC at *
    generalize Cal.dayOf d.toD = N at *
    clear hN hrb hrd hti hcl hdv hDC hW1 hr
    go_enter Tryd.func13, Tryd.ntmps13
    go_wp2_with (first
      | (rw [← HW1.out]; refine wpList_load_row (by rfl) 24 (.tmp 1) (by rfl) w.heap.size (by rfl) _ DC (0, 0) _ HR2.out Tryd.underlying24 (by rfl) (by rw [HDs.out]; exact HI1.out) ?_)
      | (go_at_call 30; refine (HIs.out _ HGW.out).mono ?_; rintro e w2 ⟨rfl, hg2⟩; have HG2 := Lib.hid hg2; clear hg2))
    refine sec_region _ w.heap.size d.Y d.M d.D d.h d.mi d.s (N : Int) _ _ _ _ _ _ DC true W1 _ _ rfl rfl (fun W hW => HCl.out W hW) (fun W hW => HR1.out W hW) (by rw [HDs.out]; exact HI1.out) (fun W hW => HDd.out W (grown_trans HGW.out hW)) HK.out.1 HK.out.2.1 HK.out.2.2.1 HK.out.2.2.2.1 HK.out.2.2.2.2.1 HK.out.2.2.2.2.2 (grown_trans HG2.out ⟨rfl, rfl, rfl, Nat.le_refl _, fun _ _ _ => rfl⟩) (fun us w3 hg3 hus => ?_)
    simp only [fill_cons, fill_nil, Act.put, List.setIfInBounds_toArray, List.set_cons_succ, List.set_cons_zero]
    rw [hus, HS.out]
    have HG3 := Lib.hid hg3
    clear hg3 hus
    go_wp2
    go_ret2
    exact ⟨grown_trans HGW.out HG3.out, rfl⟩
  · have hf : Cal.rightI d = false := by rw [← Bool.not_eq_true]; exact hr
    rw [if_neg hr]
    rw [hf] at HIs
    rw [hdv] at HIs ⊢
    clear hdv hDC hW1 hr hf
    go_enter Tryd.func13, Tryd.ntmps13
    go_wp2_with (first
      | (rw [← HW1.out]; refine wpList_load_row (by rfl) 24 (.tmp 1) (by rfl) w.heap.size (by rfl) _ DC (0, 0) _ HR2.out Tryd.underlying24 (by rfl) (by rw [HDs.out]; exact HI1.out) ?_)
      | (go_at_call 30; refine (HIs.out _ HGW.out).mono ?_; rintro e w2 ⟨rfl, hg2⟩; have HG2 := Lib.hid (grown_trans HGW.out hg2); have he := HErr.out w2 HG2.out; clear hg2))
    go_quiet (fail)
    go_wp2
    go_ret2
    exact ⟨grown_drewN HG2.out _, rfl⟩
end Go.Proofs.YtndjhhebmbmppaaDoor
namespace Go.Proofs.YtndjhhebmbmppaaDoor
open Go.RowKit
set_option linter.unusedVariables false

theorem isM_in (t : Int) : inB 0 253402300799 [t] = decide (isM t) := by
  rw [inB_one, Bool.eq_iff_iff, Bool.and_eq_true, decide_eq_true_eq, decide_eq_true_eq, decide_eq_true_eq, isM]

set_option maxRecDepth 100000 in
set_option maxHeartbeats 1000000 in
theorem mWd_any (W0 : World) : MoWd W0 := by
  intro t w _ hg
  have HIm := Lib.hid (isMoment_any _ [t] _ (ints1 w t) (by simp))
  rw [isM_in] at HIm
  have HG := Lib.hid (World.grownBy_alloc w (.cells #[.int .i64 t] 3) none)
  by_cases hm : isM t
  · rw [if_pos hm]
    rw [decide_eq_true hm] at HIm
    obtain ⟨m1, m2⟩ := hm
    go_enter Tryd.func11, Tryd.ntmps11
    go_wp2_with (go_at_call 26; refine HIm.out.mono ?_; rintro e w2 ⟨rfl, rfl⟩)
    go_ret
    exact ⟨HG.out, rfl⟩
  · rw [if_neg hm]
    rw [decide_eq_false hm] at HIm
    go_enter Tryd.func11, Tryd.ntmps11
    go_wp2_with (go_at_call 26; refine HIm.out.mono ?_; rintro e w2 ⟨rfl, rfl⟩)
    go_ret
    exact ⟨HG.out, rfl⟩

theorem wrapA {t s : Int} (ht : inI t) (hs : inI s) : (isM t ∧ isM (t + s) → IntKind.i64.wrap (t + s) = t + s) ∧ inB 0 253402300799 [t, IntKind.i64.wrap (t + s)] = decide (isM t ∧ isM (t + s)) := by
  unfold inI at ht hs
  constructor
  · rintro ⟨⟨h1, h2⟩, h3, h4⟩
    simp only [IntKind.wrap, IntKind.bits, IntKind.signed]
    simp
    omega
  · rw [inB_two, Bool.eq_iff_iff, decide_eq_true_iff]
    simp only [Bool.and_eq_true, decide_eq_true_eq]
    unfold isM
    have : IntKind.i64.wrap (t + s) = t + s ∨ (IntKind.i64.wrap (t + s) = t + s - 18446744073709551616 ∧ t + s > 9223372036854775807) ∨ t + s < -9223372036854775808 := by
      simp only [IntKind.wrap, IntKind.bits, IntKind.signed]
      simp
      omega
    generalize IntKind.i64.wrap (t + s) = q at *
    constructor
    · rintro ⟨⟨h1, h2⟩, h3, h4⟩
      rcases this with h | ⟨h, h'⟩ | h <;> omega
    · rintro ⟨⟨h1, h2⟩, h3, h4⟩
      rcases this with h | ⟨h, h'⟩ | h <;> omega

set_option maxRecDepth 100000 in
set_option maxHeartbeats 1000000 in
theorem mAdd_any (A : Nat → Addr) (W0 : World) (hE : AllErrs W0 A) : MoAdd A W0 := by
  intro t s w ht hs hg
  have HIm := Lib.hid (isMoment_any _ [t, IntKind.i64.wrap (t + s)] _ (ints2 w t (IntKind.i64.wrap (t + s))) (by simp))
  obtain ⟨k1, k2⟩ := wrapA ht hs
  rw [k2] at HIm
  have HG := Lib.hid (World.grownBy_alloc w (.cells #[.int .i64 t, .int .i64 (IntKind.i64.wrap (t + s))] 3) none)
  have he := err_range (hE.grown (grown_trans hg HG.out))
  have HErr := Lib.hid he
  clear ht hs k2 he
  by_cases hm : isM t ∧ isM (t + s)
  · rw [if_pos hm]
    rw [decide_eq_true hm] at HIm
    rw [k1 hm] at HIm HG
    obtain ⟨⟨m1, m2⟩, m3, m4⟩ := hm
    go_enter Tryd.func25, Tryd.ntmps25
    go_wp2_with (go_at_call 26; refine HIm.out.mono ?_; rintro e w2 ⟨rfl, rfl⟩)
    go_ret2
    exact ⟨HG.out, rfl⟩
  · rw [if_neg hm]
    rw [decide_eq_false hm] at HIm
    clear k1 hm
    have e64 : IntKind.i64.wrap (t + s) = wrap64 (t + s) := by rw [IntKind.wrap_i64]; simp only [wrap64]
    rw [e64] at HIm HG HErr
    clear e64
    obtain ⟨w1, hw1⟩ : ∃ w1 : World, w1 = w.alloc (.cells #[.int .i64 t, .int .i64 (wrap64 (t + s))] 3) := ⟨_, rfl⟩
    rw [← hw1] at HIm HG HErr
    go_enter Tryd.func25, Tryd.ntmps25
    go_wp2_with (go_at_call 26; rw [← hw1]; refine HIm.out.mono ?_; rintro e w2 ⟨rfl, hw⟩; rw [hw]; clear hw hw1; have he := HErr.out)
    go_quiet (fail)
    go_wp2
    go_ret2
    exact ⟨grown_drewN HG.out _, rfl⟩
end Go.Proofs.YtndjhhebmbmppaaDoor
namespace Go.Proofs.YtndjhhebmbmppaaDoor
open Go.RowKit
set_option linter.unusedVariables false

/-- Behind a call that hands back a struct and another value. -/
theorem results_rowT {P : Program} {fn : Func} {p u : Tmp} {ty : TypeId} (h : fn.results = #[.cell p ty, .tmp u]) (tmps : Array Value) (w : World) (g : Nat) (t : TypeId) (cs : Array Value) (fr : Nat × Nat) (d : TypeDesc) (v : Value)
    (hp : tmps.getD p undef = .pointer (some ⟨g, 0, none⟩)) (hg : w.heap[g]? = some (.cells cs t fr)) (hu : P.underlying ty = some d) (hd : (match d with | .struct _ | .array _ _ => true | _ => false) = true) (hi : (P.info? ty).map (·.size) = some cs.size)
    (hv : tmps.getD u undef = v) : (results fn tmps).run P w = .ok (.tuple #[.agg cs, v]) w := by
  rw [results_cell_tmp h, hp, hv]
  simp [asAddr, Sem.run_pure, Result.andThen, run_loadVar_row w g t ty cs fr d hg hu hd hi]

abbrev zeroD : Array Value := #[.int .i64 0, .int .i64 0, .int .i64 0, .int .i64 0, .int .i64 0, .int .i64 0]

theorem dayOf_div {d : Cal.Date} (h : Cal.Right d) (t : Nat) (hs : Cal.sec d = t) : Cal.dayOf d = t / 86400 ∧ d.h = t % 86400 / 3600 ∧ d.mi = t % 86400 % 3600 / 60 ∧ d.s = t % 86400 % 60 := by
  have hc := Cal.clock_lt h
  obtain ⟨_, _, _, h1, h2, h3⟩ := h
  unfold Cal.sec at hs
  have hc2 : Cal.clock d = (d.h * 60 + d.mi) * 60 + d.s := rfl
  omega

theorem ofEnd {W1 w4 : World} {g r : Nat} {DC zs DF : Array Value} {t t' : TypeId} (hg : W1.grownBy w4 none) (hs : W1.heap.size ≤ g) (hrow : w4.heap[g]? = some (.cells DC t (0, 0))) (hr : W1.heap[r]? = some (.cells zs t' (0, 0))) (a b c : Value)
    (hDF : ((DC.setIfInBounds 3 a).setIfInBounds 4 b).setIfInBounds 5 c = DF) :
    W1.grownBy (((w4.setCell ⟨g, 3, none⟩ a).setCell ⟨g, 4, none⟩ b).setCell ⟨g, 5, none⟩ c) none ∧ (((w4.setCell ⟨g, 3, none⟩ a).setCell ⟨g, 4, none⟩ b).setCell ⟨g, 5, none⟩ c).heap[g]? = some (.cells DF t (0, 0)) ∧
      (((w4.setCell ⟨g, 3, none⟩ a).setCell ⟨g, 4, none⟩ b).setCell ⟨g, 5, none⟩ c).heap[r]? = some (.cells zs t' (0, 0)) := by
  have h1 : W1.grownBy (((w4.setCell ⟨g, 3, none⟩ a).setCell ⟨g, 4, none⟩ b).setCell ⟨g, 5, none⟩ c) none := grown_set (grown_set (grown_set hg (.inl hs) _) (.inl hs) _) (.inl hs) _
  exact ⟨h1, by rw [heap_setCell_same _ _ _ _ _ _ (heap_setCell_same _ _ _ _ _ _ (heap_setCell_same _ _ _ _ _ _ hrow)), hDF], (h1.block _ (blk_lt hr) (by simp)).trans hr⟩

theorem zeroS {w : World} {g : Nat} {t : TypeId} (k : Nat) (hk : k < 6) (h : w.heap[g]? = some (.cells zeroD t (0, 0))) : (w.setCell ⟨g, k, none⟩ (.int .i64 0)).heap[g]? = some (.cells zeroD t (0, 0)) := by
  rw [heap_setCell_same _ _ _ _ _ _ h]
  match k, hk with
  | 0, _ => rfl
  | 1, _ => rfl
  | 2, _ => rfl
  | 3, _ => rfl
  | 4, _ => rfl
  | 5, _ => rfl
theorem zeroT {w w1 : World} {t : TypeId} (k : Nat) (hk : k < 6) (h : w.grownBy w1 none ∧ w1.heap[w.heap.size]? = some (.cells zeroD t (0, 0))) :
    w.grownBy (w1.setCell ⟨w.heap.size, k, none⟩ (.int .i64 0)) none ∧ (w1.setCell ⟨w.heap.size, k, none⟩ (.int .i64 0)).heap[w.heap.size]? = some (.cells zeroD t (0, 0)) :=
  ⟨grown_set h.1 (.inl (Nat.le_refl _)) _, zeroS k hk h.2⟩
theorem zeroEnd {w w1 : World} {t : TypeId} (hg : w.grownBy w1 none) (hr : w1.heap[w.heap.size]? = some (.cells zeroD t (0, 0))) :
    w.grownBy ((((((w1.setCell ⟨w.heap.size, 0, none⟩ (.int .i64 0)).setCell ⟨w.heap.size, 1, none⟩ (.int .i64 0)).setCell ⟨w.heap.size, 2, none⟩ (.int .i64 0)).setCell ⟨w.heap.size, 3, none⟩ (.int .i64 0)).setCell ⟨w.heap.size, 4, none⟩ (.int .i64 0)).setCell ⟨w.heap.size, 5, none⟩ (.int .i64 0)).drew none ∧
    ((((((w1.setCell ⟨w.heap.size, 0, none⟩ (.int .i64 0)).setCell ⟨w.heap.size, 1, none⟩ (.int .i64 0)).setCell ⟨w.heap.size, 2, none⟩ (.int .i64 0)).setCell ⟨w.heap.size, 3, none⟩ (.int .i64 0)).setCell ⟨w.heap.size, 4, none⟩ (.int .i64 0)).setCell ⟨w.heap.size, 5, none⟩ (.int .i64 0)).drew.heap[w.heap.size]? = some (.cells zeroD t (0, 0)) := by
  have h0 := zeroT 0 (by decide) ⟨hg, hr⟩
  have h1 := zeroT 1 (by decide) h0
  have h2 := zeroT 2 (by decide) h1
  have h3 := zeroT 3 (by decide) h2
  have h4 := zeroT 4 (by decide) h3
  have h5 := zeroT 5 (by decide) h4
  clear h0 h1 h2 h3 h4 hg hr
  revert h5
  generalize World.setCell _ _ _ = w9
  intro h5
  exact ⟨grown_drewN h5.1 1, h5.2⟩

set_option maxRecDepth 100000 in
set_option maxHeartbeats 1000000 in
theorem mOf_any (A : Nat → Addr) (W0 : World) (hE : AllErrs W0 A) (hL : Lens W0) : MoOf A W0 := by
  intro t w _ hg
  have HI1 : Hid ((Tryd.prog.info? 24).map (·.size) = some 6) := Lib.hid (by kernel_rfl)
  have him := isMoment_any _ [t] _ (ints1 (w.alloc (.cells zeroD 24)) t) (by simp)
  rw [isM_in, World.size_alloc] at him
  have HIm := Lib.hid him
  clear him
  have HG := Lib.hid (grown_alloc (World.grownBy_alloc w (.cells zeroD 24) none) (.cells #[.int .i64 t] 3))
  have HR : Hid (((w.alloc (.cells zeroD 24)).alloc (.cells #[.int .i64 t] 3)).heap[w.heap.size]? = some (.cells zeroD 24 (0, 0))) := Lib.hid (by
    rw [alloc_old _ _ _ (by simp)]; exact alloc_at w _)
  obtain ⟨W1, hW1⟩ : ∃ W1, W1 = (w.alloc (.cells zeroD 24)).alloc (.cells #[.int .i64 t] 3) := ⟨_, rfl⟩
  rw [← hW1] at HG HR HIm
  have HW1 := Lib.hid hW1
  clear hW1
  by_cases hm : isM t
  · rw [if_pos hm]
    rw [decide_eq_true hm] at HIm
    obtain ⟨m1, m2⟩ := hm
    obtain ⟨T, rfl⟩ : ∃ T : Nat, t = (T : Int) := ⟨t.toNat, by omega⟩
    rw [Int.toNat_natCast]
    obtain ⟨hr, hsc⟩ := Cal.of_right (t := T) (by omega)
    obtain ⟨e1, e2, e3, e4⟩ := dayOf_div hr T hsc
    generalize Cal.of T = d at *
    have HDd := fun W hW => dateOfDay_any d hr W (hL.grown (w' := W) (grown_trans hg hW))
    rw [show ((Cal.dayOf d : Nat) : Int) = (T : Int) / 86400 by omega] at HDd
    obtain ⟨DC, hDC⟩ : ∃ DC : Array Value, DC = #[.int .i64 (d.Y : Int), .int .i64 (d.M : Int), .int .i64 (d.D : Int), .int .i64 0, .int .i64 0, .int .i64 0] := ⟨_, rfl⟩
    have hdv : dV ⟨(d.Y : Int), (d.M : Int), (d.D : Int), 0, 0, 0⟩ = .agg DC := by rw [hDC]
    rw [hdv] at HDd
    have HDd := Lib.hid HDd
    have HDs : Hid (DC.size = 6 ∧ DC.all (·.oneCell') = true) := Lib.hid (by rw [hDC]; exact ⟨rfl, by simp [Value.oneCell']⟩)
    have HDC := Lib.hid hDC
    obtain ⟨DF, hDF⟩ : ∃ DF : Array Value, DF = #[.int .i64 (d.Y : Int), .int .i64 (d.M : Int), .int .i64 (d.D : Int), .int .i64 (d.h : Int), .int .i64 (d.mi : Int), .int .i64 (d.s : Int)] := ⟨_, rfl⟩
    have hdf : dV d.toI = .agg DF := by rw [hDF]; rfl
    rw [hdf]
    have HDFs : Hid (DF.size = 6 ∧ DF.all (·.oneCell') = true) := Lib.hid (by rw [hDF]; exact ⟨rfl, by simp [Value.oneCell']⟩)
    have HDF := Lib.hid hDF
    have HT := Lib.hid (show (T : Int) % 86400 / 3600 = (d.h : Int) ∧ (T : Int) % 3600 / 60 = (d.mi : Int) ∧ (T : Int) % 60 = (d.s : Int) by omega)
    clear hDC hdv hDF hdf e1 e2 e3 e4 hsc hr
    go_enter Tryd.func8, Tryd.ntmps8
    go_wp2_with (first
      | (go_at_call 26; rw [← HW1.out]; refine HIm.out.mono ?_; rintro e w2 ⟨rfl, hw⟩; rw [hw]; clear hw)
      | (go_at_call 27; refine (HDd.out _ HG.out).mono ?_; rintro e w3 ⟨rfl, hg3⟩; have HG3 := Lib.hid hg3; clear hg3)
      | (refine wpList_store_row (by rfl) 24 (.tmp 5) (.tmp 16) (by rfl) w3.heap.size DC (by rfl) (by rfl) _ _ (alloc_at w3 _) (by rw [HDs.out.1]; exact HI1.out) (by rw [HDs.out.1]; rfl) HDs.out.2 ?_; obtain ⟨w4, hx⟩ : ∃ W : World, W = (w3.alloc (.cells zeroD 24)).setRow w3.heap.size DC := ⟨_, rfl⟩; rw [← hx]; have hst := stored (z := zeroD) (DC := DC) (T := 24) HG3.out; rw [← hx, HDC.out] at hst; have HS := Lib.hid hst; have x3 := cell_blk hst.2.2 3 rfl; have y3 := free_blk hst.2.2 3; have x4 := cell_blk hst.2.2 4 rfl; have y4 := free_blk hst.2.2 4; have x5 := cell_blk hst.2.2 5 rfl; have y5 := free_blk hst.2.2 5; clear hst hx)
      | (obtain ⟨w5, hx5⟩ : ∃ W : World, W = ((w4.setCell ⟨w3.heap.size, 3, none⟩ (.int .i64 ((T : Int) % 86400 / 3600))).setCell ⟨w3.heap.size, 4, none⟩ (.int .i64 ((T : Int) % 3600 / 60))).setCell ⟨w3.heap.size, 5, none⟩ (.int .i64 ((T : Int) % 60)) := ⟨_, rfl⟩; rw [← hx5]; have h5 := ofEnd HS.out.1 HG3.out.size HS.out.2.2 HR.out (.int .i64 ((T : Int) % 86400 / 3600)) (.int .i64 ((T : Int) % 3600 / 60)) (.int .i64 ((T : Int) % 60)) (DF := DF) (by rw [HDF.out, HT.out.1, HT.out.2.1, HT.out.2.2]; rfl); rw [← hx5] at h5; have H5 := Lib.hid h5; clear h5 hx5 x3 y3 x4 y4 x5 y5; refine wpList_load_row (by rfl) 24 (.tmp 5) (by rfl) w3.heap.size (by rfl) _ DF (0, 0) _ H5.out.2.1 Tryd.underlying24 (by rfl) (by rw [HDFs.out.1]; exact HI1.out) ?_)
      | (refine wpList_store_row (by rfl) 24 (.tmp 2) (.tmp 27) (by rfl) w.heap.size DF (by rfl) (by rfl) _ _ H5.out.2.2 (by rw [HDFs.out.1]; exact HI1.out) (by rw [HDFs.out.1]; rfl) HDFs.out.2 ?_))
    refine bodyPost_ret (v := .tuple #[.agg DF, .nilIface]) ?_ rfl ⟨grown_setRow (grown_trans HG.out H5.out.1) (Nat.le_refl _) _, rfl⟩
    exact results_rowT Tryd.results8 _ _ w.heap.size _ _ (0, 0) _ _ rfl (setRow_heap _ _ _ DF _ _ H5.out.2.2) Tryd.underlying24 rfl (by rw [HDFs.out.1]; exact HI1.out) rfl
  · rw [if_neg hm]
    rw [decide_eq_false hm] at HIm
    have he := err_range (hE.grown (grown_trans hg HG.out))
    clear hm
    go_enter Tryd.func8, Tryd.ntmps8
    go_wp2_with (go_at_call 26; rw [← HW1.out]; refine HIm.out.mono ?_; rintro e w2 ⟨rfl, hw⟩; rw [hw]; clear hw)
    have hz : 0 < w.heap.size := World.block_lt_of_cell? w _ (err_range (hE.grown hg))
    have hz1 : w.heap.size ≠ 0 := by omega
    have hz2 : 0 ≠ w.heap.size := by omega
    have x0 := cell_blk HR.out 0 rfl
    have x1 := cell_blk HR.out 1 rfl
    have x2 := cell_blk HR.out 2 rfl
    have x3 := cell_blk HR.out 3 rfl
    have x4 := cell_blk HR.out 4 rfl
    have x5 := cell_blk HR.out 5 rfl
    have y0 := free_blk HR.out 0
    have y1 := free_blk HR.out 1
    have y2 := free_blk HR.out 2
    have y3 := free_blk HR.out 3
    have y4 := free_blk HR.out 4
    have y5 := free_blk HR.out 5
    go_region
    obtain ⟨w9, hw9⟩ : ∃ W : World, W = ((((((W1.setCell ⟨w.heap.size, 0, none⟩ (.int .i64 0)).setCell ⟨w.heap.size, 1, none⟩ (.int .i64 0)).setCell ⟨w.heap.size, 2, none⟩ (.int .i64 0)).setCell ⟨w.heap.size, 3, none⟩ (.int .i64 0)).setCell ⟨w.heap.size, 4, none⟩ (.int .i64 0)).setCell ⟨w.heap.size, 5, none⟩ (.int .i64 0)).drew := ⟨_, rfl⟩
    rw [← hw9]
    have h9 := zeroEnd HG.out HR.out
    rw [← hw9] at h9
    have H9 := Lib.hid h9
    clear h9 hw9 x0 x1 x2 x3 x4 x5 y0 y1 y2 y3 y4 y5 hz hz1 hz2 he
    go_wp2
    refine bodyPost_ret (v := .tuple #[.agg zeroD, errV A 1]) ?_ rfl ⟨H9.out.1, rfl⟩
    exact results_rowT Tryd.results8 _ _ w.heap.size _ _ (0, 0) _ _ rfl H9.out.2 Tryd.underlying24 rfl HI1.out rfl
end Go.Proofs.YtndjhhebmbmppaaDoor
