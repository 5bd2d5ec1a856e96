/- The walks of slices.Compare, package oids' Compare and Under. The walk of package oids' Under. -/
import Derived.Test.YtflelmbkndmcgaaDoorIt5
import Derived.Test.YtflelmbkndmcgaaDoorOl3
namespace Go.Proofs.YtflelmbkndmcgaaDoor
open Go.RowKit

def cmpI (x y : Int) : Int := if x < y then -1 else if y < x then 1 else 0
set_option maxRecDepth 100000 in
theorem isNaN_any (x : Int) (w : World) : Calls Tryd.prog 56 #[.int .i64 x] w fun e w' => e = .returned (.bool false) ∧ w' = w := by
  have hb : (x != x) = false := by simp
  go_enter Tryd.func56, Tryd.ntmps56
  go_wp2
  go_ret
  exact ⟨rfl, rfl⟩
set_option maxRecDepth 100000 in
theorem cmpInt_any (x y : Int) (w : World) : Calls Tryd.prog 50 #[.int .i64 x, .int .i64 y] w fun e w' => e = .returned (.int .i64 (cmpI x y)) ∧ w' = w := by
  have HN := Lib.hid (fun (z : Int) (W : World) => isNaN_any z W)
  have H1 : x < y → Hid (cmpI x y = -1) := fun h => by rw [cmpI, if_pos h]; exact rfl
  have H2 : ¬ x < y → y < x → Hid (cmpI x y = 1) := fun h h' => by rw [cmpI, if_neg h, if_pos h']; exact rfl
  have H3 : ¬ x < y → ¬ y < x → Hid (cmpI x y = 0) := fun h h' => by rw [cmpI, if_neg h, if_neg h']; exact rfl
  by_cases hxy : x < y
  · have HX := H1 hxy
    clear H1 H2 H3
    generalize cmpI x y = c at *
    go_enter Tryd.func50, Tryd.ntmps50
    go_wp2_with (go_at_call 56; refine (HN.out _ _).mono ?_; rintro e w1 ⟨rfl, rfl⟩)
    go_ret
    exact ⟨by rw [HX.out]; rfl, rfl⟩
  · by_cases hyx : y < x
    · have HX := H2 hxy hyx
      clear H1 H2 H3
      generalize cmpI x y = c at *
      go_enter Tryd.func50, Tryd.ntmps50
      go_wp2_with (go_at_call 56; refine (HN.out _ _).mono ?_; rintro e w1 ⟨rfl, rfl⟩)
      go_ret
      exact ⟨by rw [HX.out]; rfl, rfl⟩
    · have HX := H3 hxy hyx
      clear H1 H2 H3
      generalize cmpI x y = c at *
      go_enter Tryd.func50, Tryd.ntmps50
      go_wp2_with (go_at_call 56; refine (HN.out _ _).mono ?_; rintro e w1 ⟨rfl, rfl⟩)
      go_ret
      exact ⟨by rw [HX.out]; rfl, rfl⟩

theorem cmp_both {l m : List Int} {k : Nat} (h1 : k < l.length) (h2 : k < m.length) : Od.cmp (l.drop k) (m.drop k) = if cmpI (l.getD k 0) (m.getD k 0) = 0 then Od.cmp (l.drop (k + 1)) (m.drop (k + 1)) else cmpI (l.getD k 0) (m.getD k 0) := by
  have e1 : l.getD k 0 = l[k] := by rw [List.getD_eq_getElem?_getD, List.getElem?_eq_getElem h1]; rfl
  have e2 : m.getD k 0 = m[k] := by rw [List.getD_eq_getElem?_getD, List.getElem?_eq_getElem h2]; rfl
  rw [List.drop_eq_getElem_cons h1, List.drop_eq_getElem_cons h2, Od.cmp, e1, e2]
  unfold cmpI
  split
  · simp
  · split <;> simp
theorem cmp_right {l m : List Int} {k : Nat} (h1 : k < l.length) (h2 : m.length ≤ k) : Od.cmp (l.drop k) (m.drop k) = 1 := by
  rw [List.drop_eq_getElem_cons h1, List.drop_eq_nil_of_le h2]; rfl
theorem cmp_left {l m : List Int} {k : Nat} (h1 : l.length ≤ k) (h2 : k < m.length) : Od.cmp (l.drop k) (m.drop k) = -1 := by
  rw [List.drop_eq_getElem_cons h2, List.drop_eq_nil_of_le h1]; rfl
theorem cmp_none {l m : List Int} {k : Nat} (h1 : l.length ≤ k) (h2 : m.length ≤ k) : Od.cmp (l.drop k) (m.drop k) = 0 := by
  rw [List.drop_eq_nil_of_le h2, List.drop_eq_nil_of_le h1]; rfl

set_option maxRecDepth 100000 in
set_option maxHeartbeats 1000000 in
theorem slCmp_any (v1 v2 : Value) (l m : List Int) (w : World) (h1 : Ints w v1 l) (h2 : Ints w v2 m) (hl : l.length ≤ 1099511620000) (hm : m.length ≤ 1099511620000) :
    Calls Tryd.prog 35 #[v1, v2] w fun e w' => e = .returned (.int .i64 (Od.cmp l m)) ∧ w' = w := by
  obtain ⟨a1, g1, o1, c1, rfl, k1, k2, k3⟩ := h1
  obtain ⟨a2, g2, o2, c2, rfl, m1, m2, m3⟩ := h2
  have K2 := Lib.hid k2
  have K3 := Lib.hid k3
  have M2 := Lib.hid m2
  have M3 := Lib.hid m3
  have HC := Lib.hid (fun (x y : Int) (W : World) => cmpInt_any x y W)
  have HB := Lib.hid (fun k h1 h2 => cmp_both (l := l) (m := m) (k := k) h1 h2)
  have HR := Lib.hid (fun k h1 h2 => cmp_right (l := l) (m := m) (k := k) h1 h2)
  have HL := Lib.hid (fun k h1 h2 => cmp_left (l := l) (m := m) (k := k) h1 h2)
  have HN := Lib.hid (fun k h1 h2 => cmp_none (l := l) (m := m) (k := k) h1 h2)
  have H0 : Hid (Od.cmp (l.drop 0) (m.drop 0) = Od.cmp l m) := Lib.hid rfl
  obtain ⟨n, hn⟩ : ∃ n, n = l.length := ⟨_, rfl⟩
  obtain ⟨n', hn'⟩ : ∃ n', n' = m.length := ⟨_, rfl⟩
  rw [← hn] at K2 K3 hl HB HR HL HN ⊢
  rw [← hn'] at M2 M3 hm HB HR HL HN ⊢
  clear k1 k2 k3 m1 m2 m3 hn hn'
  generalize Od.cmp l m = R at *
  go_enter Tryd.func35, Tryd.ntmps35
  go_wp2
  go_loopw [11] (fun i wr => ∃ k : Nat, k ≤ n ∧ k ≤ n' ∧ i = .int .i64 k ∧ wr = w ∧ Od.cmp (l.drop k) (m.drop k) = R) (fun i _ => n - (intOf i).toNat)
  case atStart => exact ⟨0, Nat.zero_le _, Nat.zero_le _, rfl, rfl, H0.out⟩
  case round =>
    obtain ⟨k, hk, hk', rfl, rfl, hall⟩ := hrel
    have HAll := Lib.hid hall
    clear hall
    by_cases hlt : k < n
    · obtain ⟨rfl, _⟩ := K2.out (by omega)
      have f1 := K3.out k hlt
      by_cases hlt' : k < n'
      · obtain ⟨rfl, _⟩ := M2.out (by omega)
        have f2 := M3.out k hlt'
        have HB2 := Lib.hid (HB.out k hlt hlt')
        have y1 : ¬ n' ≤ k := by omega
        by_cases hc : cmpI (l.getD k 0) (m.getD k 0) = 0
        · rw [if_pos hc] at HB2
          have hb : (cmpI (l.getD k 0) (m.getD k 0) != 0) = false := by rw [hc]; rfl
          generalize l.getD k 0 = x at *
          generalize m.getD k 0 = y at *
          generalize hcc : cmpI x y = c at *
          have HCC := Lib.hid hcc
          clear hc hcc
          go_wp2_with (go_at_call 50; refine (HC.out _ _ _).mono ?_; rintro e w1 ⟨rfl, rfl⟩; rw [HCC.out])
          go_roundw
          case rel => exact ⟨k + 1, by omega, by omega, by go_num, trivial, by rw [← HB2.out]; exact HAll.out⟩
          case measure => simp [intOf]; omega
        · rw [if_neg hc] at HB2
          have hb : (cmpI (l.getD k 0) (m.getD k 0) != 0) = true := by rw [bne, beq_eq_false_iff_ne.2 hc]; rfl
          generalize l.getD k 0 = x at *
          generalize m.getD k 0 = y at *
          generalize hcc : cmpI x y = c at *
          have HCC := Lib.hid hcc
          clear hc hcc
          go_wp2_with (go_at_call 50; refine (HC.out _ _ _).mono ?_; rintro e w1 ⟨rfl, rfl⟩; rw [HCC.out])
          go_ret
          exact ⟨by rw [← HAll.out, HB2.out]; rfl, rfl⟩
      · have y1 : n' ≤ k := by omega
        have HR2 := Lib.hid (HR.out k hlt y1)
        go_wp2
        go_ret
        exact ⟨by rw [← HAll.out, HR2.out]; rfl, rfl⟩
    · obtain rfl : k = n := by omega
      by_cases hlt' : k < n'
      · have HR2 := Lib.hid (HL.out k (Nat.le_refl _) hlt')
        go_wp2
        go_ret
        exact ⟨by rw [← HAll.out, HR2.out]; rfl, rfl⟩
      · have y1 : ¬ k < n' := hlt'
        have HR2 := Lib.hid (HN.out k (Nat.le_refl _) (by omega))
        go_wp2
        go_ret
        exact ⟨by rw [← HAll.out, HR2.out]; rfl, rfl⟩

set_option maxRecDepth 100000 in
theorem arcsOrNone_any (A : Nat → Addr) (s : ByteArray) (hs : s.size ≤ 100000) (tp : TypeId) (p : Value) (w : World) (hF : Figs w tp p) (hE : RFErrs w A) :
    Calls Tryd.prog 36 #[.string s] w fun e w' => ∃ v, e = .returned v ∧ w.grownBy w' none ∧ Ints w' v (arcsOf s) := by
  have HP := parse_any A s hs tp p w hF hE
  unfold arcsOf
  cases hp : Od.parse (strL s) with
  | error k =>
    rw [hp] at HP
    have HP2 := Lib.hid HP
    clear HP hF hE hp
    go_enter Tryd.func36, Tryd.ntmps36
    go_wp2_with (go_at_call 7; refine HP2.out.mono ?_; rintro e w1 ⟨hg1, rfl⟩; have HG1 := Lib.hid hg1; clear hg1)
    go_ret
    exact ⟨_, rfl, HG1.out, Ints.nil _⟩
  | ok l =>
    rw [hp] at HP
    have HP2 := Lib.hid HP
    clear HP hF hE hp
    go_enter Tryd.func36, Tryd.ntmps36
    go_wp2_with (go_at_call 7; refine HP2.out.mono ?_; rintro e w1 ⟨hg1, va, vc, rfl, hi, _⟩; have HG1 := Lib.hid hg1; have HI := Lib.hid hi; clear hg1 hi)
    go_ret
    exact ⟨_, rfl, HG1.out, HI.out⟩

set_option maxRecDepth 100000 in
theorem cm_spec (A : Nat → Addr) (tp : TypeId) (p : Value) (w0 : World) (hF0 : Figs w0 tp p) (hE0 : RFErrs w0 A) : CmSpec w0 := by
  intro a b w ha hb hw
  have HA := Lib.hid (fun W hW => arcsOrNone_any A a ha tp p W (hF0.grown hW) (hE0.grown hW))
  have HB := Lib.hid (fun W hW => arcsOrNone_any A b hb tp p W (hF0.grown hW) (hE0.grown hW))
  have HC := Lib.hid (fun v1 v2 W h1 h2 => slCmp_any v1 v2 (arcsOf a) (arcsOf b) W h1 h2 (by have := arcsOf_len a; omega) (by have := arcsOf_len b; omega))
  have HW := Lib.hid hw
  clear hF0 hE0 hw
  generalize Od.cmp (arcsOf a) (arcsOf b) = R at *
  go_enter Tryd.func19, Tryd.ntmps19
  go_wp2_with (first
    | (go_at_call 36; with_reducible refine (HA.out w HW.out).mono ?_; clear HA; rintro e w1 ⟨v1, rfl, hg1, hi1⟩; have HG1 := Lib.hid hg1; have HI1 := Lib.hid hi1; clear hg1 hi1)
    | (go_at_call 36; with_reducible refine (HB.out w1 (grown_trans HW.out HG1.out)).mono ?_; rintro e w2 ⟨v2, rfl, hg2, hi2⟩; have HG2 := Lib.hid hg2; have HI2 := Lib.hid hi2; clear hg2 hi2)
    | (go_at_call 35; refine (HC.out _ _ _ (HI1.out.grown HG2.out) HI2.out).mono ?_; rintro e w3 ⟨rfl, rfl⟩))
  go_ret
  exact ⟨grown_trans HG1.out HG2.out, rfl⟩

theorem parse2 (A : Nat → Addr) (s : ByteArray) (hs : s.size ≤ 100000) (tp : TypeId) (p : Value) (w : World) (hF : Figs w tp p) (hE : RFErrs w A) :
    Calls Tryd.prog 7 #[.string s] w fun e w' => w.grownBy w' none ∧ ∃ a c E, e = .returned (.tuple #[.slice a (arcsOf s).length c, E]) ∧ Ints w' (.slice a (arcsOf s).length c) (arcsOf s) ∧ ((errNo s = 0 ∧ E = .nilIface ∧ 2 ≤ (arcsOf s).length) ∨ (errNo s ≠ 0 ∧ E = errV A (errNo s))) :=
  (parse_any A s hs tp p w hF hE).mono (by
    rintro e w' ⟨h1, h2⟩
    refine ⟨h1, ?_⟩
    unfold arcsOf errNo
    cases hp : Od.parse (strL s) with
    | error k =>
      rw [hp] at h2
      exact ⟨_, _, _, h2, Ints.nil _, .inr ⟨by rcases parseErr hp with h | h <;> simp [h], rfl⟩⟩
    | ok l =>
      rw [hp] at h2
      obtain ⟨a, c, h3, h4, _⟩ := h2
      exact ⟨_, _, _, h3, h4, .inl ⟨rfl, rfl, ((Od.right_iff l).1 (Od.parse_ok hp).2).1.1⟩⟩)
end Go.Proofs.YtflelmbkndmcgaaDoor
namespace Go.Proofs.YtflelmbkndmcgaaDoor
open Go.RowKit

theorem slEq_any (v1 v2 : Value) (l m : List Int) (w : World) (h1 : Ints w v1 l) (h2 : Ints w v2 m) (hl : 0 < l.length) (hm : 0 < m.length) (hl2 : l.length ≤ 1099511620000) (hm2 : m.length ≤ 1099511620000) :
    Calls Tryd.prog 37 #[v1, v2] w fun e w' => e = .returned (.bool (decide (l = m))) ∧ ∃ q, w' = w.drewN q := by
  obtain ⟨a1, g1, o1, c1, rfl, k1, k2, k3⟩ := h1
  obtain ⟨a2, g2, o2, c2, rfl, m1, m2, m3⟩ := h2
  obtain ⟨rfl, _⟩ := k2 hl
  obtain ⟨rfl, _⟩ := m2 hm
  refine (Any.slices_Equal_int Tryd.lays111 g1 o1 l.length c1 g2 o2 m.length c2 l m w (Nat.le_refl _) (Nat.le_refl _) (by omega) (by omega) k3 m3).mono ?_
  rintro e w' ⟨rfl, h⟩
  refine ⟨?_, h⟩
  rw [List.take_length, List.take_length]
  have : (l == m) = decide (l = m) := Bool.eq_iff_iff.2 (by simp)
  rw [this]

theorem under_parts {a b : ByteArray} : under a b = (decide (errNo a = 0) && decide (errNo b = 0) && decide ((arcsOf b).length ≤ (arcsOf a).length) && decide ((arcsOf a).take (arcsOf b).length = arcsOf b)) := rfl

set_option maxRecDepth 100000 in
set_option maxHeartbeats 1000000 in
theorem un_spec (A : Nat → Addr) (tp : TypeId) (p : Value) (w0 : World) (hF0 : Figs w0 tp p) (hE0 : RFErrs w0 A) : UnSpec w0 := by
  intro a b w ha hb hw
  have HW := Lib.hid hw
  have hPA := parse2 A a ha tp p w (hF0.grown hw) (hE0.grown hw)
  have hPB := fun W hW => parse2 A b hb tp p W (hF0.grown hW) (hE0.grown hW)
  have hl := arcsOf_len a
  have hm := arcsOf_len b
  rw [under_parts]
  have HP : ∀ (x : ByteArray) (W : World), Hid (Calls Tryd.prog 7 #[.string x] W fun e w' => W.grownBy w' none ∧ ∃ a c E, e = .returned (.tuple #[.slice a (arcsOf x).length c, E]) ∧ Ints w' (.slice a (arcsOf x).length c) (arcsOf x) ∧ ((errNo x = 0 ∧ E = .nilIface ∧ 2 ≤ (arcsOf x).length) ∨ (errNo x ≠ 0 ∧ E = errV A (errNo x)))) →
      errNo x = 0 → Hid (Calls Tryd.prog 7 #[.string x] W fun e w' => W.grownBy w' none ∧ ∃ va vc, e = .returned (.tuple #[.slice va (arcsOf x).length vc, .nilIface]) ∧ Ints w' (.slice va (arcsOf x).length vc) (arcsOf x) ∧ 2 ≤ (arcsOf x).length) := fun x W h e0 => Lib.hid (h.out.mono (by
    rintro e w' ⟨h1, va, vc, E, h2, h3, (⟨_, h4, h5⟩ | ⟨h4, _⟩)⟩
    · subst h4; exact ⟨h1, va, vc, h2, h3, h5⟩
    · exact absurd e0 h4))
  have HX : ∀ (x : ByteArray) (W : World), Hid (Calls Tryd.prog 7 #[.string x] W fun e w' => W.grownBy w' none ∧ ∃ a c E, e = .returned (.tuple #[.slice a (arcsOf x).length c, E]) ∧ Ints w' (.slice a (arcsOf x).length c) (arcsOf x) ∧ ((errNo x = 0 ∧ E = .nilIface ∧ 2 ≤ (arcsOf x).length) ∨ (errNo x ≠ 0 ∧ E = errV A (errNo x)))) →
      errNo x ≠ 0 → Hid (Calls Tryd.prog 7 #[.string x] W fun e w' => ∃ v, e = .returned (.tuple #[v, errV A (errNo x)]) ∧ W.grownBy w' none) := fun x W h e0 => Lib.hid (h.out.mono (by
    rintro e w' ⟨h1, va, vc, E, h2, h3, (⟨h4, _⟩ | ⟨_, h4⟩)⟩
    · exact absurd h4 e0
    · subst h4; exact ⟨_, h2, h1⟩))
  by_cases ea : errNo a = 0
  · have PA := HP a w (Lib.hid hPA) ea
    by_cases eb : errNo b = 0
    · have PB := Lib.hid (fun W hW => (HP b W (Lib.hid (hPB W hW)) eb).out)
      have HEq := Lib.hid (fun v1 v2 W h1 h2 k1 k2 k3 k4 => slEq_any v1 v2 (arcsOf b) ((arcsOf a).take (arcsOf b).length) W h1 h2 k1 k2 k3 k4)
      rw [ea, eb]
      obtain ⟨L, hL⟩ : ∃ L, L = arcsOf a := ⟨_, rfl⟩
      obtain ⟨M, hM⟩ : ∃ M, M = arcsOf b := ⟨_, rfl⟩
      rw [← hL] at PA HEq hl ⊢
      rw [← hM] at PB HEq hm ⊢
      clear hPA hPB hF0 hE0 hw ea eb hL hM HP HX
      by_cases hlen : M.length ≤ L.length
      · have HR : Hid ((decide ((0 : Nat) = 0) && decide ((0 : Nat) = 0) && decide (M.length ≤ L.length) && decide (L.take M.length = M)) = decide (M = L.take M.length)) := Lib.hid (by
          refine Bool.eq_iff_iff.2 ?_; simp [hlen]; exact ⟨Eq.symm, Eq.symm⟩)
        rw [HR.out]
        clear HR
        go_enter Tryd.func20, Tryd.ntmps20
        go_wp2_with (first
          | (go_at_call 7; with_reducible refine PA.out.mono ?_; clear PA; rintro e w1 ⟨hg1, a1, c1, rfl, hi1, hq1⟩; have HG1 := Lib.hid hg1; have HI1 := Lib.hid hi1; have HQ1 := Lib.hid hq1; clear hg1 hi1 hq1)
          | (go_at_call 7; with_reducible refine (PB.out w1 (grown_trans HW.out HG1.out)).mono ?_; rintro e w2 ⟨hg2, a2, c2, rfl, hi2, hq2⟩; have HG2 := Lib.hid hg2; have hcap := ((HI1.out.grown hg2).cap).2; have HI3 := Lib.hid (HI1.out.grown hg2); have HI2 := Lib.hid hi2; have HQ2 := Lib.hid hq2; clear hg2 hi2 hq2)
          | (go_at_call 37; refine (HEq.out _ _ _ HI2.out (HI3.out.to M.length hlen) (by have := HQ2.out; omega) (by have := HQ2.out; rw [List.length_take]; omega) (by omega) (by rw [List.length_take]; omega)).mono ?_; rintro e w3 ⟨rfl, q, rfl⟩))
        go_ret
        exact ⟨grown_drewN (grown_trans HG1.out HG2.out) _, rfl⟩
      · have HR : Hid ((decide ((0 : Nat) = 0) && decide ((0 : Nat) = 0) && decide (M.length ≤ L.length) && decide (L.take M.length = M)) = false) := Lib.hid (by
          rw [decide_eq_false hlen]; simp)
        rw [HR.out]
        clear HR HEq
        go_enter Tryd.func20, Tryd.ntmps20
        go_wp2_with (first
          | (go_at_call 7; with_reducible refine PA.out.mono ?_; clear PA; rintro e w1 ⟨hg1, a1, c1, rfl, hi1, hq1⟩; have HG1 := Lib.hid hg1; have HI1 := Lib.hid hi1; have HQ1 := Lib.hid hq1; clear hg1 hi1 hq1)
          | (go_at_call 7; with_reducible refine (PB.out w1 (grown_trans HW.out HG1.out)).mono ?_; rintro e w2 ⟨hg2, a2, c2, rfl, hi2, hq2⟩; have HG2 := Lib.hid hg2; clear hg2 hi2 hq2))
        go_ret
        exact ⟨grown_trans HG1.out HG2.out, rfl⟩
    · have PB := Lib.hid (fun W hW => (HX b W (Lib.hid (hPB W hW)) eb).out)
      rw [decide_eq_false eb, Bool.and_false, Bool.false_and, Bool.false_and]
      generalize errNo b = kb at *
      clear hPA hPB hF0 hE0 hw HP HX ea eb
      go_enter Tryd.func20, Tryd.ntmps20
      go_wp2_with (first
        | (go_at_call 7; with_reducible refine PA.out.mono ?_; clear PA; rintro e w1 ⟨hg1, a1, c1, rfl, hi1, hq1⟩; have HG1 := Lib.hid hg1; clear hg1 hi1 hq1)
        | (go_at_call 7; with_reducible refine (PB.out w1 (grown_trans HW.out HG1.out)).mono ?_; rintro e w2 ⟨v2, rfl, hg2⟩; have HG2 := Lib.hid hg2; clear hg2))
      go_ret
      exact ⟨grown_trans HG1.out HG2.out, rfl⟩
  · have PA := HX a w (Lib.hid hPA) ea
    rw [decide_eq_false ea, Bool.false_and, Bool.false_and, Bool.false_and]
    generalize errNo a = ka at *
    clear hPA hPB hF0 hE0 hw HP HX ea
    go_enter Tryd.func20, Tryd.ntmps20
    go_wp2_with (go_at_call 7; refine PA.out.mono ?_; rintro e w1 ⟨v1, rfl, hg1⟩; have HG1 := Lib.hid hg1; clear hg1)
    go_ret
    exact ⟨HG1.out, rfl⟩
end Go.Proofs.YtflelmbkndmcgaaDoor
