/- The document's elements: tags, lengths, bytes; the law TlvTags. -/
import Derived.Test.YtndgbhgalablfaaDoorTl7
namespace Go.Proofs.YtndgbhgalablfaaDoor
open Go.RowKit

set_option maxRecDepth 100000 in
theorem refMade_any (t : Int) (w : World) :
    Calls Tryd.prog 32 #[.int .i64 t] w fun e w' => e = .returned (.bool (Tl.made t)) ∧ w' = w := by
  go_enter Tryd.func32, Tryd.ntmps32
  go_wp2
  all_goals (go_ret; exact ⟨ret_boolT (by rw [Bool.eq_iff_iff]; simp [Tl.made] <;> omega), rfl⟩)

set_option maxRecDepth 100000 in
set_option maxHeartbeats 1000000 in
theorem refKnown_any (t : Int) (w : World) :
    Calls Tryd.prog 23 #[.int .i64 t] w fun e w' => e = .returned (.bool (Tl.known t)) ∧ w' = w := by
  have HM := Lib.hid (refMade_any t w)
  go_enter Tryd.func23, Tryd.ntmps23
  generalize hm : Tl.made t = m at *
  have Hm := Lib.hid hm
  clear hm
  cases m
  · go_wp2_with (go_at_call 32; refine HM.out.mono ?_; rintro e w2 ⟨rfl, rfl⟩)
    all_goals (go_ret; refine ⟨ret_boolT ?_, rfl⟩; unfold Tl.known; rw [Hm.out, Bool.eq_iff_iff]; simp <;> omega)
  · go_wp2_with (go_at_call 32; refine HM.out.mono ?_; rintro e w2 ⟨rfl, rfl⟩)
    all_goals (go_ret; refine ⟨ret_boolT ?_, rfl⟩; unfold Tl.known; rw [Hm.out]; rfl)

theorem lenB1 {n : Nat} (h : n < 128) : Tl.lenB n = [n] := by unfold Tl.lenB; rw [if_pos h]
theorem lenB2 {n : Nat} (h : ¬ n < 128) (h2 : n < 256) : Tl.lenB n = [129, n] := by
  unfold Tl.lenB Tl.more
  rw [if_neg h, if_neg h, if_pos h2]
  simp [Tl.be]
  omega
theorem lenB3 {n : Nat} (h : ¬ n < 256) (h2 : n < 65536) : Tl.lenB n = [130, n / 256, n % 256] := by
  unfold Tl.lenB Tl.more
  rw [if_neg (by omega), if_neg (by omega), if_neg h, if_pos h2]
  simp [Tl.be]
  omega

/-- A slice that is new, and its bytes. -/
def NewB (w w' : World) (v : Value) (l : List Nat) : Prop := w.grownBy w' none ∧ w'.ownsRow w.heap.size 5 1 v l.length (cellsL l)
set_option maxRecDepth 100000 in
theorem refLen_any (n : Nat) (hn : n ≤ 65530) (w : World) :
    Calls Tryd.prog 29 #[.int .i64 n] w fun e w' => ∃ v, e = .returned v ∧ FrW w w' v (Tl.lenB n) := by
  have lit : ∀ l : List Nat, l.length ≤ 1000 → FrW w (w.alloc (.cells (cellsL l).toArray 5)) (.slice (some ⟨w.heap.size, 0, none⟩) l.length l.length) l := fun l hl => by
    have h := ownsRow_lit (alloc_at w (.cells (cellsL l).toArray 5)) (Nat.le_refl _) (by simp [cellsL]; omega)
    have e : (cellsL l).toArray.size = l.length := by simp [cellsL]
    rw [e] at h
    exact ⟨World.grownBy_alloc _ _ _, by simpa using h⟩
  have HL := Lib.hid lit
  clear lit
  by_cases h1 : n < 128
  · have HX := Lib.hid (lenB1 h1)
    go_enter Tryd.func29, Tryd.ntmps29
    go_wp2
    go_ret
    refine ⟨_, rfl, ?_⟩
    rw [HX.out]
    exact HL.out [n] (by simp)
  · by_cases h2 : n < 256
    · have HX := Lib.hid (lenB2 h1 h2)
      go_enter Tryd.func29, Tryd.ntmps29
      go_wp2
      go_ret
      refine ⟨_, rfl, ?_⟩
      rw [HX.out]
      exact HL.out [129, n] (by simp)
    · have HX := Lib.hid (lenB3 h2 (by omega))
      have d1 : decide ((n : Int) < 128) = false := decide_eq_false (by omega)
      have d2 : decide ((n : Int) < 256) = false := decide_eq_false (by omega)
      have d3 : decide ((n : Int) < 65536) = true := decide_eq_true (by omega)
      have hq : n / 256 < 256 := by omega
      have hq2 : (n : Int) / 256 < 256 := by omega
      clear h1 h2 hn
      go_enter Tryd.func29, Tryd.ntmps29
      go_wp2
      go_ret
      refine ⟨_, rfl, ?_⟩
      rw [HX.out]
      have := HL.out [130, n / 256, n % 256] (by simp)
      rw [show (cellsL [130, n / 256, n % 256]).toArray = #[Value.int IntKind.u8 130, Value.int IntKind.u8 ((n : Int) / 256), Value.int IntKind.u8 ((n : Int) % 256)] from by simp [cellsL]] at this
      exact this

set_option maxRecDepth 100000 in
theorem refPut_any (t : Nat) (ht : t < 256) (v : Value) (l : List Nat) (w : World) (hB : Bytes w v l) (h0 : Whole0 v) (hl : l.length ≤ 65530) :
    Calls Tryd.prog 24 #[.int .i64 t, v] w fun e w' => ∃ u, e = .returned u ∧ FrW w w' u (Tl.elem t l) := by
  have HB := Lib.hid hB
  have H0 := Lib.hid h0
  obtain ⟨_, va, vsb, vso, vc, rfl, _⟩ := hB
  obtain ⟨n, hn⟩ : ∃ n, n = l.length := ⟨_, rfl⟩
  have HN := Lib.hid hn
  rw [← hn] at HB H0 hl ⊢
  have F1 : Hid (FrW w (w.alloc (.cells #[.int .u8 t] 5)) (.slice (some ⟨w.heap.size, 0, none⟩) 1 1) [t]) := Lib.hid ⟨World.grownBy_alloc _ _ _, ownsRow_lit (alloc_at w _) (Nat.le_refl _) (by simp)⟩
  have HLn : Hid ((Tl.lenB n).length ≤ 5) := Lib.hid (by rw [Tl.lenB_len]; have := Tl.more_le n; omega)
  have HLl := Lib.hid (Tl.lenB_lt n)
  have HEl : Hid (Tl.elem t l = [t] ++ Tl.lenB n ++ l) := Lib.hid (by rw [Tl.elem, ← hn]; rfl)
  have HRL := Lib.hid (fun W => refLen_any n hl W)
  generalize Tl.lenB n = ln at *
  clear h0 hn
  go_enter Tryd.func24, Tryd.ntmps24
  go_wp2_with (first
    | (go_at_call 29; refine (HRL.out _).mono ?_; rintro e w2 ⟨u, rfl, hF2⟩; have hB2 := Bytes.own hF2.own HLl.out; have hW2 := Whole0.own hF2.own; have F2 : Hid (FrW w w2 (.slice (some ⟨w.heap.size, 0, none⟩) 1 1) [t]) := Lib.hid ⟨grown_trans F1.out.grown hF2.grown, F1.out.own.kept hF2.grown (Classical.em _)⟩; have HB2 := Lib.hid hB2; have HW2 := Lib.hid hW2; obtain ⟨ua, _, uc, rfl, _⟩ := ownsRow_form hF2.own; clear hF2 hB2 hW2)
    | (at_builtin; refine wpList_appB (by rfl) (.tmp 7) (.tmp 10) 22 (by rfl) w.heap.size 5 (.int .u8 0) 1 Tryd.underlying22 (by kernel_rfl) rfl (by decide) _ 1 (cellsL [t]) (by rfl) F2.out.own _ ln (by rfl) HB2.out HW2.out (by have := HLn.out; omega) F2.out.le ?_; intro v3 w3 ho3 hg3; have F3 := Lib.hid (F2.out.step (l' := [t] ++ ln) ho3 hg3 (cellsL_append _ _).symm); clear ho3 hg3)
    | (at_builtin; refine wpList_appB (by rfl) (.tmp 11) (.tmp 12) 22 (by rfl) w.heap.size 5 (.int .u8 0) 1 Tryd.underlying22 (by kernel_rfl) rfl (by decide) v3 _ (cellsL ([t] ++ ln)) (by rfl) F3.out.own _ l (by rfl) (HB.out.grown F3.out.grown) H0.out (by rw [List.length_append, ← HN.out]; have := HLn.out; simp; omega) F3.out.le ?_; intro v4 w4 ho4 hg4; have F4 := Lib.hid (F3.out.step (l' := [t] ++ ln ++ l) ho4 hg4 (cellsL_append _ _).symm); clear ho4 hg4))
  go_ret
  exact ⟨_, rfl, by rw [HEl.out]; exact F4.out⟩

set_option maxRecDepth 100000 in
set_option maxHeartbeats 1000000 in
theorem tlvTags_any (A : Nat → Addr) (t n : Int) (w : World) (hE : AllErrs w A) :
    Calls Tryd.prog 7 #[.int .i64 t, .int .i64 n] w fun e w' => e = .returned (.bool true) ∧ w.grownBy w' none := by
  have HAl := Lib.hid (alive3_any A w hE)
  have HK := Lib.hid (known_any t)
  have HM := Lib.hid (made_any t)
  have HRK := Lib.hid (refKnown_any t)
  have HRM := Lib.hid (refMade_any t)
  generalize Tl.known t = kn at *
  generalize Tl.made t = md at *
  clear hE
  have hkn : (kn == kn) = true := by simp
  have hmd : (md == md) = true := by simp
  by_cases h : 0 ≤ n ∧ n ≤ 65530
  · obtain ⟨k, rfl⟩ : ∃ k : Nat, n = k := ⟨n.toNat, by omega⟩
    have HS := Lib.hid (size_anyT (k : Int))
    have HL := Lib.hid (refLen_any k (by omega))
    have hln := Tl.lenB_len k
    have hm4 := Tl.more_le k
    have HSz : Hid (Tl.size (k : Int) = 1 + (Tl.lenB k).length + k) := Lib.hid (by rw [Tl.size, if_pos h, Int.toNat_natCast, hln]; omega)
    obtain ⟨h1, h2⟩ := h
    have HL5 : Hid ((Tl.lenB k).length ≤ 5) := Lib.hid (by omega)
    generalize Tl.lenB k = ln at *
    generalize Tl.size (k : Int) = sz at *
    clear hln hm4
    go_enter Tryd.func7, Tryd.ntmps7
    go_wp2_with (first
      | (go_at_call 19; refine HAl.out.mono ?_; rintro e w2 ⟨rfl, hg2⟩; have HG2 := Lib.hid hg2; clear hg2)
      | (go_at_call 29; refine (HL.out w2).mono ?_; rintro e w3 ⟨v, rfl, hF⟩; have HG3 := Lib.hid (grown_trans HG2.out hF.grown); obtain ⟨a3, g3, c3, rfl, _, _, _, _⟩ := ownsRow_form hF.own; have h5 := HL5.out; have e1 : ((sz : Nat) : Int) = 1 + ((ln.length : Nat) : Int) + (k : Int) := (by have := HSz.out; omega); clear hF; generalize ln.length = q at *)
      | (go_at_call 30; refine (HK.out _).mono ?_; rintro e w4 ⟨rfl, rfl⟩)
      | (go_at_call 23; refine (HRK.out _).mono ?_; rintro e w4 ⟨rfl, rfl⟩)
      | (go_at_call 31; refine (HM.out _).mono ?_; rintro e w4 ⟨rfl, rfl⟩)
      | (go_at_call 32; refine (HRM.out _).mono ?_; rintro e w4 ⟨rfl, rfl⟩)
      | (go_at_call 25; refine (HS.out _).mono ?_; rintro e w4 ⟨rfl, rfl⟩))
    go_ret
    exact ⟨rfl, HG3.out⟩
  · have HS := Lib.hid (size_anyT n)
    have e0 : Tl.size n = 0 := by rw [Tl.size, if_neg h]
    rw [e0] at HS
    clear e0
    by_cases h1 : n < 0
    · have d1 : decide (0 ≤ n) = false := decide_eq_false (by omega)
      clear h
      go_enter Tryd.func7, Tryd.ntmps7
      go_wp2_with (first
        | (go_at_call 19; refine HAl.out.mono ?_; rintro e w2 ⟨rfl, hg2⟩; have HG2 := Lib.hid hg2; clear hg2)
        | (go_at_call 30; refine (HK.out _).mono ?_; rintro e w4 ⟨rfl, rfl⟩)
        | (go_at_call 23; refine (HRK.out _).mono ?_; rintro e w4 ⟨rfl, rfl⟩)
        | (go_at_call 31; refine (HM.out _).mono ?_; rintro e w4 ⟨rfl, rfl⟩)
        | (go_at_call 32; refine (HRM.out _).mono ?_; rintro e w4 ⟨rfl, rfl⟩)
        | (go_at_call 25; refine (HS.out _).mono ?_; rintro e w4 ⟨rfl, rfl⟩))
      go_ret
      exact ⟨rfl, HG2.out⟩
    · have d1 : decide (0 ≤ n) = true := decide_eq_true (by omega)
      have d2 : decide (n ≤ 65530) = false := decide_eq_false (by omega)
      clear h
      go_enter Tryd.func7, Tryd.ntmps7
      go_wp2_with (first
        | (go_at_call 19; refine HAl.out.mono ?_; rintro e w2 ⟨rfl, hg2⟩; have HG2 := Lib.hid hg2; clear hg2)
        | (go_at_call 30; refine (HK.out _).mono ?_; rintro e w4 ⟨rfl, rfl⟩)
        | (go_at_call 23; refine (HRK.out _).mono ?_; rintro e w4 ⟨rfl, rfl⟩)
        | (go_at_call 31; refine (HM.out _).mono ?_; rintro e w4 ⟨rfl, rfl⟩)
        | (go_at_call 32; refine (HRM.out _).mono ?_; rintro e w4 ⟨rfl, rfl⟩)
        | (go_at_call 25; refine (HS.out _).mono ?_; rintro e w4 ⟨rfl, rfl⟩))
      go_ret
      exact ⟨rfl, HG2.out⟩
end Go.Proofs.YtndgbhgalablfaaDoor
