/- The walk of the law TlvPut. -/
import Derived.Test.YtndgbhgalablfaaDoorTq1
import Derived.Test.YtndgbhgalablfaaDoorTl8
namespace Go.Proofs.YtndgbhgalablfaaDoor
open Go.RowKit

set_option maxRecDepth 100000 in
set_option maxHeartbeats 1000000 in
theorem tlvPut_any (A : Nat → Addr) (t : Int) (v u : Value) (B R : List Nat) (w : World) (hB : Bytes w v B) (h0 : Whole0 v) (hR : Bytes w u R) (hr0 : Whole0 u) (hE : AllErrs w A) :
    Calls Tryd.prog 5 #[.agg #[.int .i64 t, v], u] w fun e w' => e = .returned (.bool true) ∧ w.grownBy w' none := by
  obtain ⟨w0, hw0⟩ : ∃ w0, w0 = w.alloc (.cells #[.int .i64 t, v] 46) := ⟨_, rfl⟩
  have G0 : Hid (w.grownBy w0 none) := Lib.hid (by rw [hw0]; exact World.grownBy_alloc _ _ _)
  have hb0 : w0.heap[w.heap.size]? = some (.cells #[.int .i64 t, v] 46 (0, 0)) := by rw [hw0]; exact alloc_at _ _
  obtain ⟨g, hg⟩ : ∃ g, g = w.heap.size := ⟨_, rfl⟩
  rw [← hg] at hb0
  have HBx : Hid (∀ W, w0.grownBy W none → W.heap[g]? = some (.cells #[.int .i64 t, v] 46 (0, 0))) := Lib.hid (fun W hW => (hW.block _ (blk_lt hb0) (by simp)).trans hb0)
  have HAl := Lib.hid (alive3_any A w0 (hE.grown G0.out))
  have HE := Lib.hid (hE.grown G0.out)
  have HB := Lib.hid (hB.grown G0.out)
  have HR := Lib.hid (hR.grown G0.out)
  have H0 := Lib.hid h0
  have HR0 := Lib.hid hr0
  have HW0 := Lib.hid hw0
  have HG := Lib.hid hg
  obtain ⟨_, va, vsb, vso, vc, rfl, _⟩ := hB
  obtain ⟨_, ra, rsb, rso, rc, rfl, _⟩ := hR
  clear h0 hr0 hE hw0 hg hb0
  by_cases hbig : 70000 < B.length
  · generalize B.length = n at *
    have d1 : decide ((70000 : Int) < n) = true := decide_eq_true (by omega)
    go_enter Tryd.func5, Tryd.ntmps5
    go_wp2_with (go_at_call 19; rw [← HW0.out, ← HG.out]; refine HAl.out.mono ?_; rintro e w1 ⟨rfl, hg1⟩; have HG1 := Lib.hid hg1; have c1 : w1.cell? ⟨g, 1, none⟩ = some (.slice va n vc) := cell_blk (HBx.out w1 hg1) 1 rfl; clear hg1)
    go_ret
    exact ⟨rfl, grown_trans G0.out HG1.out⟩
  by_cases hbigR : 300 < R.length
  · generalize B.length = n at *
    generalize R.length = m at *
    have d1 : decide ((70000 : Int) < n) = false := decide_eq_false (by omega)
    have d2 : decide ((300 : Int) < m) = true := decide_eq_true (by omega)
    go_enter Tryd.func5, Tryd.ntmps5
    go_wp2_with (go_at_call 19; rw [← HW0.out, ← HG.out]; refine HAl.out.mono ?_; rintro e w1 ⟨rfl, hg1⟩; have HG1 := Lib.hid hg1; have c1 : w1.cell? ⟨g, 1, none⟩ = some (.slice va n vc) := cell_blk (HBx.out w1 hg1) 1 rfl; clear hg1)
    go_ret
    exact ⟨rfl, grown_trans G0.out HG1.out⟩
  have d1 : decide ((70000 : Int) < B.length) = false := decide_eq_false (by omega)
  have d2 : decide ((300 : Int) < R.length) = false := decide_eq_false (by omega)
  have HnB : Hid (B.length ≤ 70000) := Lib.hid (by omega)
  have HmR : Hid (R.length ≤ 300) := Lib.hid (by omega)
  have HBy : Hid (∀ W, w0.grownBy W none → Calls Tryd.prog 20 #[.slice va B.length vc] W fun e w' => ∃ x, e = .returned x ∧ W.grownBy w' none ∧ InAt W t B x w') := Lib.hid (fun W hW => by
    refine (numBytes_any _ B W (HB.out.grown hW) H0.out (by omega)).mono ?_
    rintro e w' ⟨gB, c, rfl, h1, h2, h3, h4, h5, h6⟩
    exact ⟨_, rfl, h5, gB, c, rfl, h1, h2, h3, h4, h6⟩)
  obtain ⟨n, hn⟩ : ∃ n, n = B.length := ⟨_, rfl⟩
  have HN := Lib.hid hn
  rw [← hn] at HB H0 HBx HnB d1 HBy
  obtain ⟨m, hm⟩ : ∃ m, m = R.length := ⟨_, rfl⟩
  have HM := Lib.hid hm
  rw [← hm] at HR HR0 HmR d2
  rw [← hn] at HW0 ⊢
  rw [← hm]
  clear hn hm hbig hbigR
  by_cases hk : Tl.known t = false
  · go_enter Tryd.func5, Tryd.ntmps5
    go_wp2_with (go_at_call 19; rw [← HW0.out, ← HG.out]; refine HAl.out.mono ?_; rintro e w1 ⟨rfl, hg1⟩; have HG1 := Lib.hid hg1; have c1 : w1.cell? ⟨g, 1, none⟩ = some (.slice va n vc) := cell_blk (HBx.out w1 hg1) 1 rfl; clear hg1)
    refine put_region5 _ t va n vc B g w1 _ _ rfl rfl (HBx.out _ HG1.out) (fun W hW => HBy.out W (grown_trans HG1.out hW)) ⟨rfl, rfl, rfl, Nat.le_refl _, fun _ _ _ => rfl⟩ (fun us w2 g5 gB c h5 hg2 hb2 hc1 hc2 hgB hRm => ?_)
    rw [fill_cons, fill_cons, fill_cons, fill_cons, fill_cons, fill_cons, fill_cons, fill_nil, h5]
    have HG2 := Lib.hid hg2
    have HB2 := Lib.hid hb2
    have c50 : w2.cell? ⟨g5, 0, none⟩ = some (.int .i64 t) := cell_blk hb2 0 rfl
    have c51 : w2.cell? ⟨g5, 1, none⟩ = some (.slice (some ⟨gB, 0, none⟩) B.length c) := cell_blk hb2 1 rfl
    rw [← HN.out] at c51
    have HBn : Hid (∀ W, w2.grownBy W none → Bytes W (.slice (some ⟨gB, 0, none⟩) n c) B) := Lib.hid (fun W hW => by
      have := (hRm.grown hgB hW (by simp)).bytes HB.out.lt (Nat.lt_of_lt_of_le hgB hW.size) (show B.length ≤ c by omega)
      rwa [← HN.out] at this)
    have HRm : Hid (∀ W, w2.grownBy W none → gB < W.heap.size ∧ Room W gB B) := Lib.hid (fun W hW => ⟨Nat.lt_of_lt_of_le hgB hW.size, hRm.grown hgB hW (by simp)⟩)
    have Hc1 := Lib.hid hc1
    have Hc2 := Lib.hid hc2
    clear hg2 hb2 hRm hgB hc1 hc2
    have hP : ∀ e w', PutPost A w2 w' t B e → e = .returned (.tuple #[.slice none 0 0, errV A 5]) := fun e w' h => by rw [PutPost, if_pos hk] at h; exact h
    have HP := Lib.hid hP
    have Hk := Lib.hid hk
    clear hP hk
    go_wp2_with (first
      | (go_at_call 21; refine (put_any A t _ B w2 (HBn.out w2 (grown_refl _ _)) (Whole0.some _ _ _) (by rw [← HN.out]; have := HnB.out; omega) (HE.out.grown (grown_trans HG1.out HG2.out))).mono ?_; rintro e w3 ⟨hp, hg3⟩; obtain rfl := HP.out e w3 hp; have HG3 := Lib.hid hg3; have k3 : w3.cell? ⟨g5, 1, none⟩ = some (.slice (some ⟨gB, 0, none⟩) n c) := (by rw [HN.out]; exact cell_blk ((hg3.block _ (blk_lt HB2.out) (by simp)).trans HB2.out) 1 rfl); have j3 : w3.cell? ⟨g, 1, none⟩ = some (.slice va n vc) := cell_blk (HBx.out w3 (grown_trans HG1.out (grown_trans HG2.out hg3))) 1 rfl; clear hg3 hp)
      | (go_at_call 22; refine (kept_any gB n c _ B w3 HN.out.symm (by have := Hc1.out; rw [HN.out]; omega) (by have := Hc2.out; unfold maxLen at this; omega) (HRm.out w3 HG3.out).1 (HRm.out w3 HG3.out).2 (HB.out.grown (grown_trans HG1.out (grown_trans HG2.out HG3.out)))).mono ?_; rintro e w4 ⟨rfl, q4, hw4⟩; have HG4 : Hid (w1.grownBy w4 none) := Lib.hid (by rw [hw4]; exact grown_drewN (grown_trans HG2.out HG3.out) q4); have HG34 : Hid (w3.grownBy w4 none) := Lib.hid (by rw [hw4]; exact grown_drewN (grown_refl _ _) q4); have j4 : w4.cell? ⟨g, 0, none⟩ = some (.int .i64 t) := cell_blk (HBx.out w4 (grown_trans HG1.out HG4.out)) 0 rfl; have i4 : w4.cell? ⟨g, 1, none⟩ = some (.slice va n vc) := cell_blk (HBx.out w4 (grown_trans HG1.out HG4.out)) 1 rfl; clear hw4)
      | (go_at_call 23; refine (refKnown_any t w4).mono ?_; rintro e w5 ⟨rfl, hw5⟩; rw [hw5]; clear hw5; rw [Hk.out])
      | (go_at_call 13; refine (num_at A 5 (by decide) _ (HE.out.grown (grown_trans HG1.out HG4.out))).mono ?_; rintro e w6 ⟨rfl, hg6⟩; have HG6 := Lib.hid hg6; clear hg6))
    go_ret
    exact ⟨rfl, grown_trans G0.out (grown_trans HG1.out (grown_trans HG4.out HG6.out))⟩
  rw [Bool.not_eq_false] at hk
  by_cases hlong : 65530 < n
  · go_enter Tryd.func5, Tryd.ntmps5
    go_wp2_with (go_at_call 19; rw [← HW0.out, ← HG.out]; refine HAl.out.mono ?_; rintro e w1 ⟨rfl, hg1⟩; have HG1 := Lib.hid hg1; have c1 : w1.cell? ⟨g, 1, none⟩ = some (.slice va n vc) := cell_blk (HBx.out w1 hg1) 1 rfl; clear hg1)
    refine put_region5 _ t va n vc B g w1 _ _ rfl rfl (HBx.out _ HG1.out) (fun W hW => HBy.out W (grown_trans HG1.out hW)) ⟨rfl, rfl, rfl, Nat.le_refl _, fun _ _ _ => rfl⟩ (fun us w2 g5 gB c h5 hg2 hb2 hc1 hc2 hgB hRm => ?_)
    rw [fill_cons, fill_cons, fill_cons, fill_cons, fill_cons, fill_cons, fill_cons, fill_nil, h5]
    have HG2 := Lib.hid hg2
    have HB2 := Lib.hid hb2
    have c50 : w2.cell? ⟨g5, 0, none⟩ = some (.int .i64 t) := cell_blk hb2 0 rfl
    have c51 : w2.cell? ⟨g5, 1, none⟩ = some (.slice (some ⟨gB, 0, none⟩) B.length c) := cell_blk hb2 1 rfl
    rw [← HN.out] at c51
    have HBn : Hid (∀ W, w2.grownBy W none → Bytes W (.slice (some ⟨gB, 0, none⟩) n c) B) := Lib.hid (fun W hW => by
      have := (hRm.grown hgB hW (by simp)).bytes HB.out.lt (Nat.lt_of_lt_of_le hgB hW.size) (show B.length ≤ c by omega)
      rwa [← HN.out] at this)
    have HRm : Hid (∀ W, w2.grownBy W none → gB < W.heap.size ∧ Room W gB B) := Lib.hid (fun W hW => ⟨Nat.lt_of_lt_of_le hgB hW.size, hRm.grown hgB hW (by simp)⟩)
    have Hc1 := Lib.hid hc1
    have Hc2 := Lib.hid hc2
    clear hg2 hb2 hRm hgB hc1 hc2
    have hP : ∀ e w', PutPost A w2 w' t B e → e = .returned (.tuple #[.slice none 0 0, errV A 3]) := fun e w' h => by rw [PutPost, if_neg (by rw [hk]; simp), if_pos (by rw [← HN.out]; exact hlong)] at h; exact h
    have d3 : decide ((65530 : Int) < n) = true := decide_eq_true (by omega)
    clear hlong
    have HP := Lib.hid hP
    have Hk := Lib.hid hk
    clear hP hk
    go_wp2_with (first
      | (go_at_call 21; refine (put_any A t _ B w2 (HBn.out w2 (grown_refl _ _)) (Whole0.some _ _ _) (by rw [← HN.out]; have := HnB.out; omega) (HE.out.grown (grown_trans HG1.out HG2.out))).mono ?_; rintro e w3 ⟨hp, hg3⟩; obtain rfl := HP.out e w3 hp; have HG3 := Lib.hid hg3; have k3 : w3.cell? ⟨g5, 1, none⟩ = some (.slice (some ⟨gB, 0, none⟩) n c) := (by rw [HN.out]; exact cell_blk ((hg3.block _ (blk_lt HB2.out) (by simp)).trans HB2.out) 1 rfl); have j3 : w3.cell? ⟨g, 1, none⟩ = some (.slice va n vc) := cell_blk (HBx.out w3 (grown_trans HG1.out (grown_trans HG2.out hg3))) 1 rfl; clear hg3 hp)
      | (go_at_call 22; refine (kept_any gB n c _ B w3 HN.out.symm (by have := Hc1.out; rw [HN.out]; omega) (by have := Hc2.out; unfold maxLen at this; omega) (HRm.out w3 HG3.out).1 (HRm.out w3 HG3.out).2 (HB.out.grown (grown_trans HG1.out (grown_trans HG2.out HG3.out)))).mono ?_; rintro e w4 ⟨rfl, q4, hw4⟩; have HG4 : Hid (w1.grownBy w4 none) := Lib.hid (by rw [hw4]; exact grown_drewN (grown_trans HG2.out HG3.out) q4); have HG34 : Hid (w3.grownBy w4 none) := Lib.hid (by rw [hw4]; exact grown_drewN (grown_refl _ _) q4); have j4 : w4.cell? ⟨g, 0, none⟩ = some (.int .i64 t) := cell_blk (HBx.out w4 (grown_trans HG1.out HG4.out)) 0 rfl; have i4 : w4.cell? ⟨g, 1, none⟩ = some (.slice va n vc) := cell_blk (HBx.out w4 (grown_trans HG1.out HG4.out)) 1 rfl; clear hw4)
      | (go_at_call 23; refine (refKnown_any t w4).mono ?_; rintro e w5 ⟨rfl, hw5⟩; rw [hw5]; clear hw5; rw [Hk.out])
      | (go_at_call 13; refine (num_at A 3 (by decide) _ (HE.out.grown (grown_trans HG1.out HG4.out))).mono ?_; rintro e w6 ⟨rfl, hg6⟩; have HG6 := Lib.hid hg6; clear hg6))
    go_ret
    exact ⟨rfl, grown_trans G0.out (grown_trans HG1.out (grown_trans HG4.out HG6.out))⟩
  · obtain ⟨tn, rfl⟩ : ∃ tn : Nat, t = tn := ⟨t.toNat, by have := Tl.known_nat t hk; omega⟩
    obtain ⟨E, hE⟩ : ∃ E, E = Tl.elem tn B := ⟨_, rfl⟩
    obtain ⟨k, hkl⟩ : ∃ k, k = E.length := ⟨_, rfl⟩
    have HEl : Hid (E = Tl.elem tn B) := Lib.hid hE
    have HK : Hid (k = E.length) := Lib.hid hkl
    have ht : tn < 256 := by have := Tl.known_nat _ hk; omega
    have HSz : Hid (Tl.size (n : Int) = k) := Lib.hid (by rw [hkl, hE, Tl.elem_len, ← HN.out, Tl.size, if_pos ⟨by omega, by omega⟩, Int.toNat_natCast])
    have HElt : Hid (∀ x ∈ E, x < 256) := Lib.hid (by rw [hE]; exact Tl.elem_lt ht HB.out.lt)
    have HkL : Hid (k ≤ 65540) := Lib.hid (by rw [hkl, hE, Tl.elem_len, ← HN.out]; have := Tl.more_le n; omega)
    have Hlong : Hid (n ≤ 65530) := Lib.hid (by omega)
    have HFst : Hid (Tl.first (E ++ R) = .ok (tn, 2 + Tl.more n, n)) := Lib.hid (by rw [hE, HN.out]; exact Tl.first_ok tn B R hk (by rw [← HN.out]; omega))
    have HFb : Hid (((E ++ R).drop (2 + Tl.more n)).take n = B) := Lib.hid (by rw [hE, HN.out]; exact Tl.elem_body _ _ _)
    have HFr : Hid ((E ++ R).drop (2 + Tl.more n + n) = R) := Lib.hid (by rw [hE, HN.out]; exact Tl.elem_rest _ _ _)
    have HRf : Hid (∀ W, w0.grownBy W none → Calls Tryd.prog 24 #[.int .i64 (tn : Int), .slice va n vc] W fun e w' => ∃ x, e = .returned x ∧ W.grownBy w' none ∧ FrW W w' x E) := Lib.hid (fun W hW => by
      refine (refPut_any tn ht _ B W (HB.out.grown hW) H0.out (by rw [← HN.out]; omega)).mono ?_
      rintro e w' ⟨x, rfl, hF⟩
      exact ⟨x, rfl, hF.grown, by rw [HEl.out]; exact hF⟩)
    have d3 : decide ((65530 : Int) < n) = false := decide_eq_false (by omega)
    generalize Tl.more n = mo at *
    clear hE hkl ht hlong
    obtain ⟨t, ht⟩ : ∃ t : Int, t = tn := ⟨_, rfl⟩
    have HT := Lib.hid ht
    rw [← ht] at hk HBx HRf HW0 HBy ⊢
    clear ht
    go_enter Tryd.func5, Tryd.ntmps5
    go_wp2_with (go_at_call 19; rw [← HW0.out, ← HG.out]; refine HAl.out.mono ?_; rintro e w1 ⟨rfl, hg1⟩; have HG1 := Lib.hid hg1; have c1 : w1.cell? ⟨g, 1, none⟩ = some (.slice va n vc) := cell_blk (HBx.out w1 hg1) 1 rfl; clear hg1)
    refine put_region5 _ t va n vc B g w1 _ _ rfl rfl (HBx.out _ HG1.out) (fun W hW => HBy.out W (grown_trans HG1.out hW)) ⟨rfl, rfl, rfl, Nat.le_refl _, fun _ _ _ => rfl⟩ (fun us w2 g5 gB c h5 hg2 hb2 hc1 hc2 hgB hRm => ?_)
    rw [fill_cons, fill_cons, fill_cons, fill_cons, fill_cons, fill_cons, fill_cons, fill_nil, h5]
    have HG2 := Lib.hid hg2
    have HB2 := Lib.hid hb2
    have c50 : w2.cell? ⟨g5, 0, none⟩ = some (.int .i64 t) := cell_blk hb2 0 rfl
    have c51 : w2.cell? ⟨g5, 1, none⟩ = some (.slice (some ⟨gB, 0, none⟩) B.length c) := cell_blk hb2 1 rfl
    rw [← HN.out] at c51
    have HBn : Hid (∀ W, w2.grownBy W none → Bytes W (.slice (some ⟨gB, 0, none⟩) n c) B) := Lib.hid (fun W hW => by
      have := (hRm.grown hgB hW (by simp)).bytes HB.out.lt (Nat.lt_of_lt_of_le hgB hW.size) (show B.length ≤ c by omega)
      rwa [← HN.out] at this)
    have HRm : Hid (∀ W, w2.grownBy W none → gB < W.heap.size ∧ Room W gB B) := Lib.hid (fun W hW => ⟨Nat.lt_of_lt_of_le hgB hW.size, hRm.grown hgB hW (by simp)⟩)
    have Hc1 := Lib.hid hc1
    have Hc2 := Lib.hid hc2
    clear hg2 hb2 hRm hgB hc1 hc2
    have hP : ∀ e w', PutPost A w2 w' t B e → ∃ a1 c1, e = .returned (.tuple #[.slice a1 k c1, .nilIface]) ∧ FrW w2 w' (.slice a1 k c1) E := fun e w' h => by
      rw [PutPost, if_neg (by rw [hk]; simp), if_neg (by rw [← HN.out]; have := Hlong.out; omega), HT.out, Int.toNat_natCast, ← HEl.out] at h
      obtain ⟨u, rfl, hF⟩ := h
      obtain ⟨a1, _, c1, rfl, _⟩ := ownsRow_form hF.own
      rw [← HK.out] at hF ⊢
      exact ⟨a1, c1, rfl, hF⟩
    have HP := Lib.hid hP
    have Hk := Lib.hid hk
    clear hP hk
    go_wp2_with (first
      | (go_at_call 21; refine (put_any A t _ B w2 (HBn.out w2 (grown_refl _ _)) (Whole0.some _ _ _) (by rw [← HN.out]; have := HnB.out; omega) (HE.out.grown (grown_trans HG1.out HG2.out))).mono ?_; rintro e w3 ⟨hp, hg3⟩; obtain ⟨a1, c1', rfl, hF3⟩ := HP.out e w3 hp; have F3 := Lib.hid hF3; clear hF3; have HG3 := Lib.hid hg3; have k3 : w3.cell? ⟨g5, 1, none⟩ = some (.slice (some ⟨gB, 0, none⟩) n c) := (by rw [HN.out]; exact cell_blk ((hg3.block _ (blk_lt HB2.out) (by simp)).trans HB2.out) 1 rfl); have j3 : w3.cell? ⟨g, 1, none⟩ = some (.slice va n vc) := cell_blk (HBx.out w3 (grown_trans HG1.out (grown_trans HG2.out hg3))) 1 rfl; clear hg3 hp)
      | (go_at_call 22; refine (kept_any gB n c _ B w3 HN.out.symm (by have := Hc1.out; rw [HN.out]; omega) (by have := Hc2.out; unfold maxLen at this; omega) (HRm.out w3 HG3.out).1 (HRm.out w3 HG3.out).2 (HB.out.grown (grown_trans HG1.out (grown_trans HG2.out HG3.out)))).mono ?_; rintro e w4 ⟨rfl, q4, hw4⟩; have HG4 : Hid (w1.grownBy w4 none) := Lib.hid (by rw [hw4]; exact grown_drewN (grown_trans HG2.out HG3.out) q4); have HG34 : Hid (w3.grownBy w4 none) := Lib.hid (by rw [hw4]; exact grown_drewN (grown_refl _ _) q4); have j4 : w4.cell? ⟨g, 0, none⟩ = some (.int .i64 t) := cell_blk (HBx.out w4 (grown_trans HG1.out HG4.out)) 0 rfl; have i4 : w4.cell? ⟨g, 1, none⟩ = some (.slice va n vc) := cell_blk (HBx.out w4 (grown_trans HG1.out HG4.out)) 1 rfl; clear hw4)
      | (go_at_call 23; refine (refKnown_any t w4).mono ?_; rintro e w5 ⟨rfl, hw5⟩; rw [hw5]; clear hw5; rw [Hk.out]))
    obtain ⟨S, hS⟩ : ∃ S, S = strOf E := ⟨_, rfl⟩
    obtain ⟨SB, hSB⟩ : ∃ S, S = strOf B := ⟨_, rfl⟩
    obtain ⟨SR, hSR⟩ : ∃ S, S = strOf R := ⟨_, rfl⟩
    have HSB := Lib.hid hSB
    have HSR := Lib.hid hSR
    have HBu : Hid (∀ W, w4.grownBy W none → Bytes W (.slice a1 k c1') E) := Lib.hid (fun W hW => (Bytes.own F3.out.own HElt.out).grown (grown_trans HG34.out hW))
    have HWu : Hid (Whole0 (.slice a1 k c1')) := Lib.hid (Whole0.own F3.out.own)
    refine put_region13 _ t va n vc a1 k c1' E S g w4 _ _ rfl rfl rfl rfl (HBx.out _ (grown_trans HG1.out HG4.out)) (fun W hW => by rw [hS]; exact conv_bytes (HBu.out W hW) _ 5 _ Tryd.underlying22 Tryd.underlying5 Tryd.underlying9) (fun W x hF => by rw [hS]; exact conv_bytes (Bytes.own hF.own HElt.out) _ 5 _ Tryd.underlying22 Tryd.underlying5 Tryd.underlying9) (fun W hW => (HRf.out W (grown_trans HG1.out (grown_trans HG4.out hW))).mono fun e w' ⟨x, h1, h2, h3⟩ => ⟨x, h1, h2, h3.of hW⟩) (fun W => by rw [← HSz.out]; exact size_anyT n W) ⟨rfl, rfl, rfl, Nat.le_refl _, fun _ _ _ => rfl⟩ (fun us' w5 hg5 => ?_)
    rw [show List.range' 62 21 = [62, 63, 64, 65, 66, 67, 68, 69, 70, 71, 72, 73, 74, 75, 76, 77, 78, 79, 80, 81, 82] from rfl]
    simp only [fill_cons, fill_nil, Act.put, List.setIfInBounds_toArray, List.set_cons_succ, List.set_cons_zero]
    have HG5 : Hid (w4.grownBy w5 none) := Lib.hid hg5
    have HG05 : Hid (w0.grownBy w5 none) := Lib.hid (grown_trans HG1.out (grown_trans HG4.out hg5))
    have F0 : Hid (FrW w5 (w5.alloc (.cells #[] 5)) (.slice (some ⟨w5.heap.size, 0, none⟩) 0 0) []) := Lib.hid ⟨World.grownBy_alloc _ _ _, ownsRow_lit (alloc_at w5 _) (Nat.le_refl _) (by simp)⟩
    clear hg5 hS hSB hSR c50 c51 k3 j3 j4 i4 c1
    go_wp2_with (first
      | (at_builtin; refine wpList_appB (by rfl) (.tmp 85) (.tmp 86) 22 (by rfl) w5.heap.size 5 (.int .u8 0) 1 Tryd.underlying22 (by kernel_rfl) rfl (by decide) _ 0 [] (by rfl) F0.out.own _ E (by rfl) (HBu.out _ (grown_trans HG5.out F0.out.grown)) HWu.out (by rw [← HK.out]; have := HkL.out; omega) F0.out.le ?_; intro v6 w6 ho6 hg6; have F6 := Lib.hid (F0.out.step (l' := E) ho6 hg6 rfl); clear ho6 hg6)
      | (at_builtin; refine wpList_appB (by rfl) (.tmp 87) (.tmp 88) 22 (by rfl) w5.heap.size 5 (.int .u8 0) 1 Tryd.underlying22 (by kernel_rfl) rfl (by decide) v6 E.length (cellsL E) (by rfl) F6.out.own _ R (by rfl) (HR.out.grown (grown_trans HG05.out F6.out.grown)) HR0.out (by rw [← HK.out, ← HM.out]; have := HkL.out; have := HmR.out; omega) F6.out.le ?_; intro v7 w7 ho7 hg7; have F7 := Lib.hid (F6.out.step (l' := E ++ R) ho7 hg7 (cellsL_append _ _).symm); clear ho7 hg7)
      | (go_at_call 26; refine (next_any A v7 (E ++ R) w7 (Bytes.own F7.out.own (fun x hx => (List.mem_append.1 hx).elim (HElt.out x) (HR.out.lt x))) (Whole0.own F7.out.own) (by rw [List.length_append, ← HK.out, ← HM.out]; have := HkL.out; have := HmR.out; omega) (HE.out.grown (grown_trans HG05.out F7.out.grown))).mono ?_; rw [HFst.out]; rintro e w8 ⟨⟨ab, cb, ar, mr, cr, hlen, rfl, hb1, hb2⟩, hg8⟩; rw [HFb.out] at hb1; rw [HFr.out] at hb2; rw [← HT.out]; obtain ⟨W9, hW9⟩ : ∃ W, W = w8.alloc (.cells #[.int .i64 t, .slice ab n cb] 46) := ⟨_, rfl⟩; have HG8 : Hid (w5.grownBy w8 none) := Lib.hid (grown_trans F7.out.grown hg8); have hg9 : w8.grownBy W9 none := (by rw [hW9]; exact World.grownBy_alloc _ _ _); have HG9 := Lib.hid hg9; have c0 : W9.cell? ⟨g, 0, none⟩ = some (.int .i64 t) := cell_blk (HBx.out _ (grown_trans HG05.out (grown_trans HG8.out hg9))) 0 rfl; have c1 : W9.cell? ⟨g, 1, none⟩ = some (.slice va n vc) := cell_blk (HBx.out _ (grown_trans HG05.out (grown_trans HG8.out hg9))) 1 rfl; have v1 : (convert 22 9 (.slice ab n cb)).run Tryd.prog W9 = .ok (.string SB) W9 := (by rw [HSB.out]; exact conv_bytes (hb1.grown hg9) _ 5 _ Tryd.underlying22 Tryd.underlying5 Tryd.underlying9); have v2 : (convert 22 9 (.slice va n vc)).run Tryd.prog W9 = .ok (.string SB) W9 := (by rw [HSB.out]; exact conv_bytes (HB.out.grown (grown_trans HG05.out (grown_trans HG8.out hg9))) _ 5 _ Tryd.underlying22 Tryd.underlying5 Tryd.underlying9); have v3 : (convert 22 9 (.slice ar mr cr)).run Tryd.prog W9 = .ok (.string SR) W9 := (by rw [HSR.out]; exact conv_bytes (hb2.grown hg9) _ 5 _ Tryd.underlying22 Tryd.underlying5 Tryd.underlying9); have v4 : (convert 22 9 (.slice ra m rc)).run Tryd.prog W9 = .ok (.string SR) W9 := (by rw [HSR.out]; exact conv_bytes (HR.out.grown (grown_trans HG05.out (grown_trans HG8.out hg9))) _ 5 _ Tryd.underlying22 Tryd.underlying5 Tryd.underlying9); rw [hW9] at c0 c1 v1 v2 v3 v4; have HW9 := Lib.hid hW9; clear hb1 hb2 hlen hg8 hg9 hW9))
    go_ret
    exact ⟨rfl, grown_trans G0.out (grown_trans HG05.out (grown_trans HG8.out (by rw [← HW9.out]; exact HG9.out)))⟩
end Go.Proofs.YtndgbhgalablfaaDoor
