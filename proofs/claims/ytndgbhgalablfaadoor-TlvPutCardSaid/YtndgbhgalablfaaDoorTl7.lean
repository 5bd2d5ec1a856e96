/- The walks of tlv's levels, Check and Depth, and of the law's alive. -/
import Derived.Test.YtndgbhgalablfaaDoorTl6
import Derived.Test.YtndgbhgalablfaaDoorNm1
namespace Go.Proofs.YtndgbhgalablfaaDoor
open Go.RowKit

set_option maxRecDepth 100000 in
set_option maxHeartbeats 1000000 in
theorem levels_any (A : Nat → Addr) (v : Value) (l : List Nat) (w : World) (hB : Bytes w v l) (h0 : Whole0 v) (hl : l.length ≤ 1099511620000) (hE : AllErrs w A) :
    Calls Tryd.prog 46 #[v] w fun e w' => LvPost A (Tl.levels l) e ∧ w.grownBy w' none := by
  have HED : Hid (∀ W, w.grownBy W none → W.cell? ⟨1, 0, none⟩ = some (errV A 3) ∧ W.cell? ⟨4, 0, none⟩ = some (errV A 4)) := Lib.hid (fun W hW => by
    have hEE := hE.grown hW
    have e3 := errs_at hEE 3 (by decide)
    have e4 := errs_at hEE 4 (by decide)
    simp only [errVars, List.getD_cons_zero, List.getD_cons_succ, Nat.add_one_sub_one] at e3 e4
    exact ⟨e3, e4⟩)
  have HF := Lib.hid (tlvFirst_any A v l w hB h0 (by omega) hE)
  have HB := Lib.hid hB
  have HE := Lib.hid hE
  obtain ⟨_, va, vsb, vso, vc, rfl, _⟩ := hB
  obtain ⟨n, hn⟩ : ∃ n, n = l.length := ⟨_, rfl⟩
  have HN := Lib.hid hn
  rw [← hn] at HB HF hl h0 ⊢
  clear h0 hE hn
  by_cases hbig : 65536 < n
  · have HX : Hid (Tl.levels l = .error 3) := Lib.hid (by rw [Tl.levels, if_pos (by rw [← HN.out]; exact hbig)])
    have eL := (HED.out w (grown_refl _ _)).1
    go_enter Tryd.func46, Tryd.ntmps46
    go_wp2
    go_quiet (fail)
    go_wp2
    go_ret2
    exact ⟨by rw [HX.out]; simp [LvPost], grown_drewN (grown_refl _ _) _⟩
  · cases hfst : Tl.first l with
    | error k =>
      have HX : Hid (Tl.levels l = .error k) := Lib.hid (by rw [Tl.levels, if_neg (by rw [← HN.out]; exact hbig), hfst])
      rw [hfst] at HF
      clear hfst
      go_enter Tryd.func46, Tryd.ntmps46
      go_wp2_with (go_at_call 43; refine HF.out.mono ?_; rintro e w2 ⟨rfl, hg2⟩; have HG2 := Lib.hid hg2; clear hg2)
      go_ret2
      exact ⟨by rw [HX.out]; simp [LvPost], grown_alloc HG2.out _⟩
    | ok p =>
      obtain ⟨t, i, m⟩ := p
      have HX0 : Hid (Tl.levels l = if i + m < l.length then .error 4 else Tl.within 16 t ((l.drop i).take m)) := Lib.hid (by rw [Tl.levels, if_neg (by rw [← HN.out]; exact hbig), hfst])
      rw [hfst] at HF
      clear hfst
      by_cases hmore : i + m < n
      · have HX : Hid (Tl.levels l = .error 4) := Lib.hid (by rw [HX0.out, if_pos (by rw [← HN.out]; exact hmore)])
        have HMo := Lib.hid hmore
        clear hmore
        go_enter Tryd.func46, Tryd.ntmps46
        go_wp2_with (go_at_call 43; refine HF.out.mono ?_; rintro e w2 ⟨⟨ab, cb, ar, mr, cr, hlen, rfl, hp1, W1, hp2, W2⟩, hg2⟩; have HG2 := Lib.hid hg2; have hmr : 0 < mr := (by have := HN.out; have := HMo.out; omega); have d0 : decide ((0 : Int) < (mr : Int)) = true := decide_eq_true (by omega); have eF := fun o => (HED.out (w2.alloc o) (grown_alloc hg2 o)).2; clear hg2 hlen hp1 hp2 W1 W2)
        go_quiet (fail)
        go_wp2
        go_ret2
        exact ⟨by rw [HX.out]; simp [LvPost], grown_drewN (grown_alloc HG2.out _) _⟩
      · have HX : Hid (Tl.levels l = Tl.within 16 t ((l.drop i).take m)) := Lib.hid (by rw [HX0.out, if_neg (by rw [← HN.out]; exact hmore)])
        obtain ⟨r, hr⟩ : ∃ r, r = Tl.within 16 t ((l.drop i).take m) := ⟨_, rfl⟩
        rw [← hr] at HX
        have HI : Hid (∀ (W : World) ab cb, w.grownBy W none → Bytes W (.slice ab m cb) ((l.drop i).take m) → Whole0 (.slice ab m cb) → Calls Tryd.prog 63 #[.agg #[.int .i64 t, .slice ab m cb], .int .i64 16] W fun e w' => LvPost A r e ∧ W.grownBy w' none) := Lib.hid (fun W ab cb hW hb h0 => by
          rw [hr]
          exact within_any A 16 (by decide) (by decide) t _ _ W hb h0 (by rw [List.length_take, List.length_drop, ← HN.out]; omega) (HE.out.grown hW))
        have HMo := Lib.hid hmore
        clear hr hmore
        cases r with
        | error k =>
          go_enter Tryd.func46, Tryd.ntmps46
          go_wp2_with (first
            | (go_at_call 43; refine HF.out.mono ?_; rintro e w2 ⟨⟨ab, cb, ar, mr, cr, hlen, rfl, hp1, W1, hp2, W2⟩, hg2⟩; have HG2 := Lib.hid hg2; have HP1 := Lib.hid hp1; have HW1' := Lib.hid W1; have hmr : mr = 0 := (by have := HN.out; have := HMo.out; omega); subst hmr; clear hg2 hlen hp1 hp2 W1 W2)
            | (go_at_call 63; refine (HI.out _ ab cb (grown_alloc HG2.out _) (HP1.out _ (HB.out.grown (grown_alloc HG2.out _))) HW1'.out).mono ?_; rintro e w4 ⟨rfl, hg4⟩; have HG4 := Lib.hid (grown_trans (grown_alloc HG2.out _) hg4); clear hg4))
          go_ret2
          exact ⟨by rw [HX.out]; simp [LvPost], HG4.out⟩
        | ok d =>
          go_enter Tryd.func46, Tryd.ntmps46
          go_wp2_with (first
            | (go_at_call 43; refine HF.out.mono ?_; rintro e w2 ⟨⟨ab, cb, ar, mr, cr, hlen, rfl, hp1, W1, hp2, W2⟩, hg2⟩; have HG2 := Lib.hid hg2; have HP1 := Lib.hid hp1; have HW1' := Lib.hid W1; have hmr : mr = 0 := (by have := HN.out; have := HMo.out; omega); subst hmr; clear hg2 hlen hp1 hp2 W1 W2)
            | (go_at_call 63; refine (HI.out _ ab cb (grown_alloc HG2.out _) (HP1.out _ (HB.out.grown (grown_alloc HG2.out _))) HW1'.out).mono ?_; rintro e w4 ⟨rfl, hg4⟩; have HG4 := Lib.hid (grown_trans (grown_alloc HG2.out _) hg4); clear hg4))
          go_ret2
          exact ⟨by rw [HX.out]; simp [LvPost], HG4.out⟩

def chkV (A : Nat → Addr) : Except Nat Nat → Value
  | .error k => errV A k
  | .ok _ => .nilIface
def depN : Except Nat Nat → Nat
  | .error _ => 0
  | .ok d => d

set_option maxRecDepth 100000 in
theorem check_any (A : Nat → Addr) (v : Value) (l : List Nat) (w : World) (hB : Bytes w v l) (h0 : Whole0 v) (hl : l.length ≤ 1099511620000) (hE : AllErrs w A) :
    Calls Tryd.prog 27 #[v] w fun e w' => e = .returned (chkV A (Tl.levels l)) ∧ w.grownBy w' none := by
  have HL := levels_any A v l w hB h0 hl hE
  cases h : Tl.levels l with
  | error k =>
    rw [h] at HL
    have HL' := Lib.hid HL
    clear HL h hB h0 hl hE
    go_enter Tryd.func27, Tryd.ntmps27
    go_wp2_with (go_at_call 46; refine HL'.out.mono ?_; rintro e w2 ⟨rfl, hg2⟩)
    go_ret
    exact ⟨rfl, hg2⟩
  | ok d =>
    rw [h] at HL
    have HL' := Lib.hid HL
    clear HL h hB h0 hl hE
    go_enter Tryd.func27, Tryd.ntmps27
    go_wp2_with (go_at_call 46; refine HL'.out.mono ?_; rintro e w2 ⟨rfl, hg2⟩)
    go_ret
    exact ⟨rfl, hg2⟩

set_option maxRecDepth 100000 in
theorem depth_any (A : Nat → Addr) (v : Value) (l : List Nat) (w : World) (hB : Bytes w v l) (h0 : Whole0 v) (hl : l.length ≤ 1099511620000) (hE : AllErrs w A) :
    Calls Tryd.prog 28 #[v] w fun e w' => e = .returned (.int .i64 (depN (Tl.levels l))) ∧ w.grownBy w' none := by
  have HL := levels_any A v l w hB h0 hl hE
  cases h : Tl.levels l with
  | error k =>
    rw [h] at HL
    have HL' := Lib.hid HL
    clear HL h hB h0 hl hE
    go_enter Tryd.func28, Tryd.ntmps28
    go_wp2_with (go_at_call 46; refine HL'.out.mono ?_; rintro e w2 ⟨rfl, hg2⟩)
    go_ret
    exact ⟨rfl, hg2⟩
  | ok d =>
    rw [h] at HL
    have HL' := Lib.hid HL
    clear HL h hB h0 hl hE
    go_enter Tryd.func28, Tryd.ntmps28
    go_wp2_with (go_at_call 46; refine HL'.out.mono ?_; rintro e w2 ⟨rfl, hg2⟩)
    go_ret
    exact ⟨rfl, hg2⟩

theorem num_at (A : Nat → Addr) (k : Nat) (hk : 1 ≤ k ∧ k ≤ 28) (w : World) (hA : AllErrs w A) :
    Calls Tryd.prog 13 #[errV A k] w fun e w' => e = .returned (.int .i64 (k : Int)) ∧ w.grownBy w' none := by
  have := num_err A (k - 1) (by omega) w hA
  rwa [show k - 1 + 1 = k by omega] at this

theorem ex1 : Tl.levels [48, 3, 2, 1, 5] = .ok 2 := by kernel_rfl
theorem ex2 : Tl.levels [48, 129, 3, 2, 1, 5] = .error 4 := by kernel_rfl

theorem cells_nat1 : #[Value.int IntKind.u8 48, Value.int IntKind.u8 3, Value.int IntKind.u8 2, Value.int IntKind.u8 1, Value.int IntKind.u8 5] = (cellsL [48, 3, 2, 1, 5]).toArray := rfl
theorem cells_nat2 : #[Value.int IntKind.u8 48, Value.int IntKind.u8 129, Value.int IntKind.u8 3, Value.int IntKind.u8 2, Value.int IntKind.u8 1, Value.int IntKind.u8 5] = (cellsL [48, 129, 3, 2, 1, 5]).toArray := rfl

set_option maxRecDepth 100000 in
set_option maxHeartbeats 1000000 in
theorem alive3_any (A : Nat → Addr) (w : World) (hE : AllErrs w A) :
    Calls Tryd.prog 19 #[] w fun e w' => e = .returned (.bool true) ∧ w.grownBy w' none := by
  have H1 : Hid (∀ W, w.grownBy W none → Calls Tryd.prog 27 #[.slice (some ⟨W.heap.size, 0, none⟩) 5 5] (W.alloc (.cells #[Value.int IntKind.u8 48, Value.int IntKind.u8 3, Value.int IntKind.u8 2, Value.int IntKind.u8 1, Value.int IntKind.u8 5] 5)) fun e w' => e = .returned .nilIface ∧ w.grownBy w' none) := Lib.hid (fun W hW => by
    rw [cells_nat1]
    refine (check_any A _ [48, 3, 2, 1, 5] _ (Bytes.lit (alloc_at W _) (by decide)) (Whole0.some _ _ _) (by decide) (hE.grown (grown_alloc hW _))).mono ?_
    rintro e w' ⟨rfl, hg⟩
    rw [ex1]
    exact ⟨rfl, grown_trans (grown_alloc hW _) hg⟩)
  have H2 : Hid (∀ W, w.grownBy W none → Calls Tryd.prog 27 #[.slice (some ⟨W.heap.size, 0, none⟩) 6 6] (W.alloc (.cells #[Value.int IntKind.u8 48, Value.int IntKind.u8 129, Value.int IntKind.u8 3, Value.int IntKind.u8 2, Value.int IntKind.u8 1, Value.int IntKind.u8 5] 5)) fun e w' => e = .returned (errV A 4) ∧ w.grownBy w' none) := Lib.hid (fun W hW => by
    rw [cells_nat2]
    refine (check_any A _ [48, 129, 3, 2, 1, 5] _ (Bytes.lit (alloc_at W _) (by decide)) (Whole0.some _ _ _) (by decide) (hE.grown (grown_alloc hW _))).mono ?_
    rintro e w' ⟨rfl, hg⟩
    rw [ex2]
    exact ⟨rfl, grown_trans (grown_alloc hW _) hg⟩)
  have H3 : Hid (∀ W, w.grownBy W none → Calls Tryd.prog 13 #[errV A 4] W fun e w' => e = .returned (.int .i64 4) ∧ w.grownBy w' none) := Lib.hid (fun W hW => (num_at A 4 (by decide) W (hE.grown hW)).mono (by
    rintro e w' ⟨rfl, hg⟩
    exact ⟨rfl, grown_trans hW hg⟩))
  clear hE
  go_enter Tryd.func19, Tryd.ntmps19
  go_wp2_with (first
    | (go_at_call 27; first | (with_reducible refine (H1.out w (grown_refl _ _)).mono ?_; rintro e w2 ⟨rfl, hg2⟩; have HG2 := Lib.hid hg2; clear hg2) | (refine (H2.out _ HG2.out).mono ?_; rintro e w3 ⟨rfl, hg3⟩; have HG3 := Lib.hid hg3; clear hg3))
    | (go_at_call 13; refine (H3.out _ HG3.out).mono ?_; rintro e w4 ⟨rfl, hg4⟩; have HG4 := Lib.hid hg4; clear hg4))
  go_ret
  exact ⟨rfl, HG4.out⟩
end Go.Proofs.YtndgbhgalablfaaDoor
