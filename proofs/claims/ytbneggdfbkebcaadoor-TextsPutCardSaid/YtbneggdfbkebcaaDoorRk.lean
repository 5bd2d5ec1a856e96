/- The walks of package texts' fault, Put, Get. -/
import Derived.Test.YtbneggdfbkebcaaDoorRd
namespace Go.Proofs.YtbneggdfbkebcaaDoor
open Go.RowKit
set_option linter.unusedVariables false

theorem err_long {w : World} {A : Nat → Addr} (h : AllErrs w A) : w.cell? ⟨2, 0, none⟩ = some (errV A 3) := errs_at h 3 (by decide)
theorem err_text {w : World} {A : Nat → Addr} (h : AllErrs w A) : w.cell? ⟨7, 0, none⟩ = some (errV A 8) := errs_at h 8 (by decide)
/-- What fault hands back. -/
def faultV (A : Nat → Addr) (k : Nat) : Value := if k = 0 then .nilIface else errV A k
set_option maxRecDepth 100000 in
theorem fault_any (A : Nat → Addr) (w : World) (hE : AllErrs w A) (hP : TxPlain w) (s : ByteArray) (most : Int) (W : World) (hs : s.size ≤ 1000) (hm : inT most) (hg : w.grownBy W none) :
    Calls Tryd.prog 28 #[.string s, .int .i64 most] W fun e w' => W.grownBy w' none ∧ e = .returned (faultV A (Pt.asked (strL s) most)) := by
  have hEW := hE.grown hg
  have e2 := err_short hEW
  have e3 := err_long hEW
  have hPl := hP s W hs hg
  have hzl := strL_len s
  rw [Pt.asked, hzl]
  unfold inT at hm
  by_cases h0 : s.size = 0
  · rw [if_pos h0]
    go_enter Tryd.func28, Tryd.ntmps28
    go_wp2
    go_ret
    exact ⟨grown_refl _ _, rfl⟩
  · rw [if_neg h0]
    have z0 : ((s.size : Int) == 0) = false := by rw [beq_eq_false_iff_ne]; omega
    by_cases h1 : most < (s.size : Int)
    · rw [if_pos h1]
      go_enter Tryd.func28, Tryd.ntmps28
      go_wp2
      go_ret
      exact ⟨grown_refl _ _, rfl⟩
    · rw [if_neg h1]
      have HE := Lib.hid hEW
      clear hEW hE e2 e3
      cases hp : Pt.plain (strL s) with
      | true =>
        rw [hp] at hPl
        rw [if_pos rfl]
        go_enter Tryd.func28, Tryd.ntmps28
        go_wp2_with (go_at_call 8; refine hPl.mono ?_; rintro e w2 ⟨hg2, rfl⟩; have HG2 := Lib.hid hg2; clear hg2)
        go_ret
        exact ⟨HG2.out, rfl⟩
      | false =>
        rw [hp] at hPl
        rw [if_neg (by decide)]
        go_enter Tryd.func28, Tryd.ntmps28
        go_wp2_with (go_at_call 8; refine hPl.mono ?_; rintro e w2 ⟨hg2, rfl⟩; have HG2 := Lib.hid hg2; have e8 := err_text (HE.out.grown hg2); clear hg2)
        go_ret
        exact ⟨HG2.out, rfl⟩

theorem asked_ne {l : List Nat} {most : Int} (h : Pt.asked l most ≠ 0) : Pt.asked l most = 2 ∨ Pt.asked l most = 3 ∨ Pt.asked l most = 8 := by
  unfold Pt.asked at *
  repeat' split
  all_goals simp_all
set_option maxRecDepth 100000 in
theorem put_any (A : Nat → Addr) (w : World) (hE : AllErrs w A) (hP : TxPlain w) : TxPut A w := by
  intro s most W hs hm hg
  have hF := fault_any A w hE hP s most W hs hm hg
  by_cases hk : Pt.asked (strL s) most = 0
  · rw [hk] at hF
    simp only [if_pos hk]
    have hF' : Calls Tryd.prog 28 #[.string s, .int .i64 most] W fun e w' => W.grownBy w' none ∧ e = .returned .nilIface := hF
    clear hF hk hE hP hg
    go_enter Tryd.func12, Tryd.ntmps12
    go_wp2_with (first
      | (go_at_call 28; refine hF'.mono ?_; rintro e w2 ⟨hg2, rfl⟩; have HG2 := Lib.hid hg2; clear hg2)
      | (refine wpList_strBy (by rfl) 9 24 (.tmp 13) (by rfl) Tryd.underlying9 Tryd.underlying24 Tryd.underlying5 s (by rfl) ?_; intro c w3 hg3 hB3; have HG3 := Lib.hid (grown_trans HG2.out hg3); have HB3 := Lib.hid hB3; clear hg3 hB3))
    go_ret2
    exact ⟨HG3.out, _, _, rfl, HB3.out⟩
  · simp only [if_neg hk]
    have hn := asked_ne hk
    generalize Pt.asked (strL s) most = k at *
    have hF' : Calls Tryd.prog 28 #[.string s, .int .i64 most] W fun e w' => W.grownBy w' none ∧ e = .returned (errV A k) := by
      unfold faultV at hF
      rw [if_neg hk] at hF
      exact hF
    clear hF hk hE hP hg
    go_enter Tryd.func12, Tryd.ntmps12
    go_wp2_with (go_at_call 28; refine hF'.mono ?_; rintro e w2 ⟨hg2, rfl⟩; have HG2 := Lib.hid hg2; clear hg2)
    go_ret2
    exact ⟨HG2.out, _, _, rfl⟩
set_option maxRecDepth 100000 in
theorem get_any (A : Nat → Addr) (w : World) (hE : AllErrs w A) (hP : TxPlain w) : TxGet A w := by
  intro v s most W hs hm hg hB
  have hF := fault_any A w hE hP s most W hs hm hg
  have hc := fun (W : World) (h : Bytes W v (strL s)) => conv_bytes (P := Tryd.prog) h 24 5 9 Tryd.underlying24 Tryd.underlying5 Tryd.underlying9
  have hcv := hc W hB
  rw [strOf_strL] at hcv
  obtain ⟨_, a, sb, so, c, rfl, _⟩ := hB
  clear hc
  by_cases hk : Pt.asked (strL s) most = 0
  · rw [hk] at hF
    simp only [if_pos hk]
    have hF' : Calls Tryd.prog 28 #[.string s, .int .i64 most] W fun e w' => W.grownBy w' none ∧ e = .returned .nilIface := hF
    clear hF hk hE hP hg
    go_enter Tryd.func13, Tryd.ntmps13
    go_wp2_with (go_at_call 28; refine hF'.mono ?_; rintro e w2 ⟨hg2, rfl⟩; have HG2 := Lib.hid hg2; clear hg2)
    go_ret2
    exact ⟨HG2.out, rfl⟩
  · simp only [if_neg hk]
    have hn := asked_ne hk
    have hF' : Calls Tryd.prog 28 #[.string s, .int .i64 most] W fun e w' => W.grownBy w' none ∧ e = .returned (errV A (Pt.asked (strL s) most)) := by
      unfold faultV at hF
      rw [if_neg hk] at hF
      exact hF
    generalize Pt.asked (strL s) most = k at *
    clear hF hk hE hP hg
    go_enter Tryd.func13, Tryd.ntmps13
    go_wp2_with (go_at_call 28; refine hF'.mono ?_; rintro e w2 ⟨hg2, rfl⟩; have HG2 := Lib.hid hg2; clear hg2)
    go_ret2
    exact ⟨HG2.out, rfl⟩
end Go.Proofs.YtbneggdfbkebcaaDoor
