/- The walk of the law OidsOrder, over what is asked of package oids. -/
import Derived.Test.YtflelmbkndmcgaaDoorOl1
import Derived.Test.YtflelmbkndmcgaaDoorOd2
namespace Go.Proofs.YtflelmbkndmcgaaDoor
open Go.RowKit

/-- A text's arcs; none where it is no identifier's. -/
def arcsOf (s : ByteArray) : List Int := match Od.parse (strL s) with | .ok l => l | .error _ => []
def errNo (s : ByteArray) : Nat := match Od.parse (strL s) with | .ok _ => 0 | .error k => k
def under (a b : ByteArray) : Bool := decide (errNo a = 0) && decide (errNo b = 0) && decide ((arcsOf b).length ≤ (arcsOf a).length) && decide ((arcsOf a).take (arcsOf b).length = arcsOf b)
def CmSpec (w : World) : Prop := ∀ (a b : ByteArray) (W : World), a.size ≤ 100000 → b.size ≤ 100000 → w.grownBy W none → Calls Tryd.prog 19 #[.string a, .string b] W fun e w' => W.grownBy w' none ∧ e = .returned (.int .i64 (Od.cmp (arcsOf a) (arcsOf b)))
def UnSpec (w : World) : Prop := ∀ (a b : ByteArray) (W : World), a.size ≤ 100000 → b.size ≤ 100000 → w.grownBy W none → Calls Tryd.prog 20 #[.string a, .string b] W fun e w' => W.grownBy w' none ∧ e = .returned (.bool (under a b))

theorem arcsOf_len (s : ByteArray) : (arcsOf s).length ≤ 16 := by
  unfold arcsOf
  cases h : Od.parse (strL s) with
  | ok l => exact ((Od.right_iff l).1 (Od.parse_ok h).2).1.2.1
  | error k => exact Nat.zero_le _
theorem refParse2_any (s : ByteArray) (w : World) (hs : s.size ≤ 1000000) :
    Calls Tryd.prog 8 #[.string s] w fun e w' => w.grownBy w' none ∧ ∃ a c, e = .returned (.tuple #[.slice a (arcsOf s).length c, .int .i64 (errNo s)]) ∧ Ints w' (.slice a (arcsOf s).length c) (arcsOf s) := by
  refine (refParse_any s w hs).mono ?_
  rintro e w' h
  unfold PsPost at h
  unfold arcsOf errNo
  cases hp : Od.parse (strL s) with
  | ok l =>
    rw [hp] at h
    obtain ⟨v, rfl, hF⟩ := h
    obtain ⟨a, g, c, rfl, _⟩ := ownsRow_form hF.own
    exact ⟨hF.grown, a, c, rfl, hF.ints⟩
  | error k =>
    rw [hp] at h
    obtain ⟨rfl, hg⟩ := h
    exact ⟨hg, none, 0, rfl, Ints.nil _⟩

set_option maxRecDepth 100000 in
set_option maxHeartbeats 4000000 in
theorem oidsOrder_any (A : Nat → Addr) (a b c : ByteArray) (w : World) (hPt : PtSpec A w) (hCm : CmSpec w) (hUn : UnSpec w) :
    Calls Tryd.prog 5 #[.string a, .string b, .string c] w fun e w' => e = .returned (.bool true) ∧ w.grownBy w' none := by
  have HAl := Lib.hid (alive5_any A w hPt)
  clear hPt
  by_cases hbig : a.size ≤ 400 ∧ b.size ≤ 400 ∧ c.size ≤ 400
  · obtain ⟨ha, hb, hc⟩ := hbig
    have HRa := Lib.hid (fun W => refParse2_any a W (by omega))
    have HRb := Lib.hid (fun W => refParse2_any b W (by omega))
    have HUn := Lib.hid (fun W hW => hUn a b W (by omega) (by omega) hW)
    have HAB := Lib.hid (fun W hW => hCm a b W (by omega) (by omega) hW)
    have hba := fun W hW => hCm b a W (by omega) (by omega) hW
    have HBC := Lib.hid (fun W hW => hCm b c W (by omega) (by omega) hW)
    have HAC := Lib.hid (fun W hW => hCm a c W (by omega) (by omega) hW)
    have hneg := Od.cmp_neg (arcsOf a) (arcsOf b)
    have hval := Od.cmp_val (arcsOf a) (arcsOf b)
    have htr := Od.cmp_trans (arcsOf a) (arcsOf b) (arcsOf c)
    rw [hneg] at hba
    have HBA := Lib.hid hba
    have hla := arcsOf_len a
    have hlb := arcsOf_len b
    have HRC := Lib.hid (fun v1 v2 W h1 h2 => refCompare_any v1 v2 (arcsOf a) (arcsOf b) W h1 h2 (by omega) (by omega))
    have HSm := Lib.hid (fun v1 v2 W h1 h2 => sameI_any v1 v2 ((arcsOf a).take (arcsOf b).length) (arcsOf b) W h1 h2 (by rw [List.length_take]; omega) (by omega))
    have hU : under a b = (decide (errNo a = 0) && decide (errNo b = 0) && decide ((arcsOf b).length ≤ (arcsOf a).length) && decide ((arcsOf a).take (arcsOf b).length = arcsOf b)) := rfl
    generalize under a b = U at *
    generalize Od.cmp (arcsOf a) (arcsOf b) = ab at *
    generalize Od.cmp (arcsOf b) (arcsOf c) = bc at *
    generalize Od.cmp (arcsOf a) (arcsOf c) = ac at *
    generalize errNo a = ea at *
    generalize errNo b = eb at *
    generalize arcsOf a = X at *
    generalize arcsOf b = Y at *
    have hab1 : -1 ≤ ab ∧ ab ≤ 1 := by omega
    obtain ⟨hab1, hab2⟩ := hab1
    have hnn : (-ab != -ab) = false := by simp
    have haa : (ab != ab) = false := by simp
    have hUU : (U != U) = false := by simp
    obtain ⟨n, hn⟩ : ∃ n, n = X.length := ⟨_, rfl⟩
    obtain ⟨m, hm⟩ : ∃ m, m = Y.length := ⟨_, rfl⟩
    have HN := Lib.hid hn
    have HM := Lib.hid hm
    rw [← hn] at HRa hla hU
    rw [← hm] at HRb hlb HSm hU
    have HTr := Lib.hid htr
    clear hn hm hba hneg hval htr hCm hUn
    by_cases h1 : ea = 0
    · by_cases h2 : eb = 0
      · by_cases h3 : m ≤ n
        · have HUd : Hid (U = decide (X.take m = Y)) := Lib.hid (by rw [hU]; simp [h1, h2, h3])
          subst h1
          subst h2
          clear hU
          by_cases k1 : ab ≤ 0
          · by_cases k2 : bc ≤ 0
            · have k3 := HTr.out k1 k2
              go_enter Tryd.func5, Tryd.ntmps5
              go_wp2_with (first
                | (go_at_call 6; refine HAl.out.mono ?_; rintro e w1 ⟨rfl, hg1⟩; have HG1 := Lib.hid hg1; clear hg1)
                | (go_at_call 8; with_reducible refine (HRa.out w1).mono ?_; rintro e w2 ⟨hg2, a2, c2, rfl, hi2⟩; have HG2 := Lib.hid (grown_trans HG1.out hg2); have hcap2 := hi2.cap.2; have HI2 := Lib.hid (fun (W : World) (hW : w2.grownBy W none) => hi2.grown hW); clear hg2 hi2)
                | (go_at_call 8; with_reducible refine (HRb.out w2).mono ?_; rintro e w3 ⟨hg3, a3, c3, rfl, hi3⟩; have HG23 := Lib.hid hg3; have HG3 := Lib.hid (grown_trans HG2.out hg3); have HI3 := Lib.hid (fun (W : World) (hW : w3.grownBy W none) => hi3.grown hW); clear hg3 hi3)
                | (go_at_call 11; refine (HSm.out _ _ _ (Ints.to (HI2.out _ HG23.out) m (by omega)) (HI3.out _ (grown_refl _ _))).mono ?_; rintro e w4 ⟨rfl, q4, hw4⟩; rw [← HUd.out]; have HG34 : Hid (w3.grownBy w4 none) := Lib.hid (by rw [hw4]; exact grown_drewN (grown_refl _ _) q4); have HG4 := Lib.hid (grown_trans HG3.out HG34.out); clear hw4)
                | (go_at_call 19; with_reducible refine (HAB.out _ HG4.out).mono ?_; rintro e w5 ⟨hg5, rfl⟩; have HG35 := Lib.hid (grown_trans HG34.out hg5); have HG5 := Lib.hid (grown_trans HG4.out hg5); clear hg5)
                | (go_at_call 19; with_reducible refine (HBC.out _ HG5.out).mono ?_; rintro e w6 ⟨hg6, rfl⟩; have HG36 := Lib.hid (grown_trans HG35.out hg6); have HG6 := Lib.hid (grown_trans HG5.out hg6); clear hg6)
                | (go_at_call 19; with_reducible refine (HAC.out _ HG6.out).mono ?_; rintro e w7 ⟨hg7, rfl⟩; have HG37 := Lib.hid (grown_trans HG36.out hg7); have HG7 := Lib.hid (grown_trans HG6.out hg7); clear hg7)
                | (go_at_call 20; refine (HUn.out _ HG7.out).mono ?_; rintro e w8 ⟨hg8, rfl⟩; have HG38 := Lib.hid (grown_trans HG37.out hg8); have HG8 := Lib.hid (grown_trans HG7.out hg8); clear hg8)
                | (go_at_call 21; refine (HRC.out _ _ _ (by rw [HN.out] at HI2; rw [HN.out]; exact HI2.out _ (grown_trans HG23.out HG38.out)) (by rw [HM.out] at HI3; rw [HM.out]; exact HI3.out _ HG38.out)).mono ?_; rintro e w9 ⟨rfl, q9, hw9⟩; have HG9 : Hid (w.grownBy w9 none) := Lib.hid (by rw [hw9]; exact grown_drewN HG8.out q9); clear hw9)
                | (go_at_call 19; with_reducible refine (HBA.out _ HG9.out).mono ?_; rintro e w10 ⟨hg10, rfl⟩; have HG10 := Lib.hid (grown_trans HG9.out hg10); clear hg10))
              go_ret
              exact ⟨rfl, HG10.out⟩
            · have k2b : 0 < bc := by omega
              go_enter Tryd.func5, Tryd.ntmps5
              go_wp2_with (first
                | (go_at_call 6; refine HAl.out.mono ?_; rintro e w1 ⟨rfl, hg1⟩; have HG1 := Lib.hid hg1; clear hg1)
                | (go_at_call 8; with_reducible refine (HRa.out w1).mono ?_; rintro e w2 ⟨hg2, a2, c2, rfl, hi2⟩; have HG2 := Lib.hid (grown_trans HG1.out hg2); have hcap2 := hi2.cap.2; have HI2 := Lib.hid (fun (W : World) (hW : w2.grownBy W none) => hi2.grown hW); clear hg2 hi2)
                | (go_at_call 8; with_reducible refine (HRb.out w2).mono ?_; rintro e w3 ⟨hg3, a3, c3, rfl, hi3⟩; have HG23 := Lib.hid hg3; have HG3 := Lib.hid (grown_trans HG2.out hg3); have HI3 := Lib.hid (fun (W : World) (hW : w3.grownBy W none) => hi3.grown hW); clear hg3 hi3)
                | (go_at_call 11; refine (HSm.out _ _ _ (Ints.to (HI2.out _ HG23.out) m (by omega)) (HI3.out _ (grown_refl _ _))).mono ?_; rintro e w4 ⟨rfl, q4, hw4⟩; rw [← HUd.out]; have HG34 : Hid (w3.grownBy w4 none) := Lib.hid (by rw [hw4]; exact grown_drewN (grown_refl _ _) q4); have HG4 := Lib.hid (grown_trans HG3.out HG34.out); clear hw4)
                | (go_at_call 19; with_reducible refine (HAB.out _ HG4.out).mono ?_; rintro e w5 ⟨hg5, rfl⟩; have HG35 := Lib.hid (grown_trans HG34.out hg5); have HG5 := Lib.hid (grown_trans HG4.out hg5); clear hg5)
                | (go_at_call 19; with_reducible refine (HBC.out _ HG5.out).mono ?_; rintro e w6 ⟨hg6, rfl⟩; have HG36 := Lib.hid (grown_trans HG35.out hg6); have HG6 := Lib.hid (grown_trans HG5.out hg6); clear hg6)
                | (go_at_call 19; with_reducible refine (HAC.out _ HG6.out).mono ?_; rintro e w7 ⟨hg7, rfl⟩; have HG37 := Lib.hid (grown_trans HG36.out hg7); have HG7 := Lib.hid (grown_trans HG6.out hg7); clear hg7)
                | (go_at_call 20; refine (HUn.out _ HG7.out).mono ?_; rintro e w8 ⟨hg8, rfl⟩; have HG38 := Lib.hid (grown_trans HG37.out hg8); have HG8 := Lib.hid (grown_trans HG7.out hg8); clear hg8)
                | (go_at_call 21; refine (HRC.out _ _ _ (by rw [HN.out] at HI2; rw [HN.out]; exact HI2.out _ (grown_trans HG23.out HG38.out)) (by rw [HM.out] at HI3; rw [HM.out]; exact HI3.out _ HG38.out)).mono ?_; rintro e w9 ⟨rfl, q9, hw9⟩; have HG9 : Hid (w.grownBy w9 none) := Lib.hid (by rw [hw9]; exact grown_drewN HG8.out q9); clear hw9)
                | (go_at_call 19; with_reducible refine (HBA.out _ HG9.out).mono ?_; rintro e w10 ⟨hg10, rfl⟩; have HG10 := Lib.hid (grown_trans HG9.out hg10); clear hg10))
              go_ret
              exact ⟨rfl, HG10.out⟩
          · have k1b : 0 < ab := by omega
            go_enter Tryd.func5, Tryd.ntmps5
            go_wp2_with (first
              | (go_at_call 6; refine HAl.out.mono ?_; rintro e w1 ⟨rfl, hg1⟩; have HG1 := Lib.hid hg1; clear hg1)
              | (go_at_call 8; with_reducible refine (HRa.out w1).mono ?_; rintro e w2 ⟨hg2, a2, c2, rfl, hi2⟩; have HG2 := Lib.hid (grown_trans HG1.out hg2); have hcap2 := hi2.cap.2; have HI2 := Lib.hid (fun (W : World) (hW : w2.grownBy W none) => hi2.grown hW); clear hg2 hi2)
              | (go_at_call 8; with_reducible refine (HRb.out w2).mono ?_; rintro e w3 ⟨hg3, a3, c3, rfl, hi3⟩; have HG23 := Lib.hid hg3; have HG3 := Lib.hid (grown_trans HG2.out hg3); have HI3 := Lib.hid (fun (W : World) (hW : w3.grownBy W none) => hi3.grown hW); clear hg3 hi3)
              | (go_at_call 11; refine (HSm.out _ _ _ (Ints.to (HI2.out _ HG23.out) m (by omega)) (HI3.out _ (grown_refl _ _))).mono ?_; rintro e w4 ⟨rfl, q4, hw4⟩; rw [← HUd.out]; have HG34 : Hid (w3.grownBy w4 none) := Lib.hid (by rw [hw4]; exact grown_drewN (grown_refl _ _) q4); have HG4 := Lib.hid (grown_trans HG3.out HG34.out); clear hw4)
              | (go_at_call 19; with_reducible refine (HAB.out _ HG4.out).mono ?_; rintro e w5 ⟨hg5, rfl⟩; have HG35 := Lib.hid (grown_trans HG34.out hg5); have HG5 := Lib.hid (grown_trans HG4.out hg5); clear hg5)
              | (go_at_call 19; with_reducible refine (HBC.out _ HG5.out).mono ?_; rintro e w6 ⟨hg6, rfl⟩; have HG36 := Lib.hid (grown_trans HG35.out hg6); have HG6 := Lib.hid (grown_trans HG5.out hg6); clear hg6)
              | (go_at_call 19; with_reducible refine (HAC.out _ HG6.out).mono ?_; rintro e w7 ⟨hg7, rfl⟩; have HG37 := Lib.hid (grown_trans HG36.out hg7); have HG7 := Lib.hid (grown_trans HG6.out hg7); clear hg7)
              | (go_at_call 20; refine (HUn.out _ HG7.out).mono ?_; rintro e w8 ⟨hg8, rfl⟩; have HG38 := Lib.hid (grown_trans HG37.out hg8); have HG8 := Lib.hid (grown_trans HG7.out hg8); clear hg8)
              | (go_at_call 21; refine (HRC.out _ _ _ (by rw [HN.out] at HI2; rw [HN.out]; exact HI2.out _ (grown_trans HG23.out HG38.out)) (by rw [HM.out] at HI3; rw [HM.out]; exact HI3.out _ HG38.out)).mono ?_; rintro e w9 ⟨rfl, q9, hw9⟩; have HG9 : Hid (w.grownBy w9 none) := Lib.hid (by rw [hw9]; exact grown_drewN HG8.out q9); clear hw9)
              | (go_at_call 19; with_reducible refine (HBA.out _ HG9.out).mono ?_; rintro e w10 ⟨hg10, rfl⟩; have HG10 := Lib.hid (grown_trans HG9.out hg10); clear hg10))
            go_ret
            exact ⟨rfl, HG10.out⟩
        · have HUd : U = false := by rw [hU]; simp [h3]
          subst HUd
          subst h1
          subst h2
          clear hU
          by_cases k1 : ab ≤ 0
          · by_cases k2 : bc ≤ 0
            · have k3 := HTr.out k1 k2
              go_enter Tryd.func5, Tryd.ntmps5
              go_wp2_with (first
                | (go_at_call 6; refine HAl.out.mono ?_; rintro e w1 ⟨rfl, hg1⟩; have HG1 := Lib.hid hg1; clear hg1)
                | (go_at_call 8; with_reducible refine (HRa.out w1).mono ?_; rintro e w2 ⟨hg2, a2, c2, rfl, hi2⟩; have HG2 := Lib.hid (grown_trans HG1.out hg2); have hcap2 := hi2.cap.2; have HI2 := Lib.hid (fun (W : World) (hW : w2.grownBy W none) => hi2.grown hW); clear hg2 hi2)
                | (go_at_call 8; with_reducible refine (HRb.out w2).mono ?_; rintro e w3 ⟨hg3, a3, c3, rfl, hi3⟩; have HG23 := Lib.hid hg3; have HG3 := Lib.hid (grown_trans HG2.out hg3); have HI3 := Lib.hid (fun (W : World) (hW : w3.grownBy W none) => hi3.grown hW); have HG34 : Hid (w3.grownBy w3 none) := Lib.hid (grown_refl _ _); have HG4 := HG3; clear hg3 hi3)
                | (go_at_call 19; with_reducible refine (HAB.out _ HG4.out).mono ?_; rintro e w5 ⟨hg5, rfl⟩; have HG35 := Lib.hid (grown_trans HG34.out hg5); have HG5 := Lib.hid (grown_trans HG4.out hg5); clear hg5)
                | (go_at_call 19; with_reducible refine (HBC.out _ HG5.out).mono ?_; rintro e w6 ⟨hg6, rfl⟩; have HG36 := Lib.hid (grown_trans HG35.out hg6); have HG6 := Lib.hid (grown_trans HG5.out hg6); clear hg6)
                | (go_at_call 19; with_reducible refine (HAC.out _ HG6.out).mono ?_; rintro e w7 ⟨hg7, rfl⟩; have HG37 := Lib.hid (grown_trans HG36.out hg7); have HG7 := Lib.hid (grown_trans HG6.out hg7); clear hg7)
                | (go_at_call 20; refine (HUn.out _ HG7.out).mono ?_; rintro e w8 ⟨hg8, rfl⟩; have HG38 := Lib.hid (grown_trans HG37.out hg8); have HG8 := Lib.hid (grown_trans HG7.out hg8); clear hg8)
                | (go_at_call 21; refine (HRC.out _ _ _ (by rw [HN.out] at HI2; rw [HN.out]; exact HI2.out _ (grown_trans HG23.out HG38.out)) (by rw [HM.out] at HI3; rw [HM.out]; exact HI3.out _ HG38.out)).mono ?_; rintro e w9 ⟨rfl, q9, hw9⟩; have HG9 : Hid (w.grownBy w9 none) := Lib.hid (by rw [hw9]; exact grown_drewN HG8.out q9); clear hw9)
                | (go_at_call 19; with_reducible refine (HBA.out _ HG9.out).mono ?_; rintro e w10 ⟨hg10, rfl⟩; have HG10 := Lib.hid (grown_trans HG9.out hg10); clear hg10))
              go_ret
              exact ⟨rfl, HG10.out⟩
            · have k2b : 0 < bc := by omega
              go_enter Tryd.func5, Tryd.ntmps5
              go_wp2_with (first
                | (go_at_call 6; refine HAl.out.mono ?_; rintro e w1 ⟨rfl, hg1⟩; have HG1 := Lib.hid hg1; clear hg1)
                | (go_at_call 8; with_reducible refine (HRa.out w1).mono ?_; rintro e w2 ⟨hg2, a2, c2, rfl, hi2⟩; have HG2 := Lib.hid (grown_trans HG1.out hg2); have hcap2 := hi2.cap.2; have HI2 := Lib.hid (fun (W : World) (hW : w2.grownBy W none) => hi2.grown hW); clear hg2 hi2)
                | (go_at_call 8; with_reducible refine (HRb.out w2).mono ?_; rintro e w3 ⟨hg3, a3, c3, rfl, hi3⟩; have HG23 := Lib.hid hg3; have HG3 := Lib.hid (grown_trans HG2.out hg3); have HI3 := Lib.hid (fun (W : World) (hW : w3.grownBy W none) => hi3.grown hW); have HG34 : Hid (w3.grownBy w3 none) := Lib.hid (grown_refl _ _); have HG4 := HG3; clear hg3 hi3)
                | (go_at_call 19; with_reducible refine (HAB.out _ HG4.out).mono ?_; rintro e w5 ⟨hg5, rfl⟩; have HG35 := Lib.hid (grown_trans HG34.out hg5); have HG5 := Lib.hid (grown_trans HG4.out hg5); clear hg5)
                | (go_at_call 19; with_reducible refine (HBC.out _ HG5.out).mono ?_; rintro e w6 ⟨hg6, rfl⟩; have HG36 := Lib.hid (grown_trans HG35.out hg6); have HG6 := Lib.hid (grown_trans HG5.out hg6); clear hg6)
                | (go_at_call 19; with_reducible refine (HAC.out _ HG6.out).mono ?_; rintro e w7 ⟨hg7, rfl⟩; have HG37 := Lib.hid (grown_trans HG36.out hg7); have HG7 := Lib.hid (grown_trans HG6.out hg7); clear hg7)
                | (go_at_call 20; refine (HUn.out _ HG7.out).mono ?_; rintro e w8 ⟨hg8, rfl⟩; have HG38 := Lib.hid (grown_trans HG37.out hg8); have HG8 := Lib.hid (grown_trans HG7.out hg8); clear hg8)
                | (go_at_call 21; refine (HRC.out _ _ _ (by rw [HN.out] at HI2; rw [HN.out]; exact HI2.out _ (grown_trans HG23.out HG38.out)) (by rw [HM.out] at HI3; rw [HM.out]; exact HI3.out _ HG38.out)).mono ?_; rintro e w9 ⟨rfl, q9, hw9⟩; have HG9 : Hid (w.grownBy w9 none) := Lib.hid (by rw [hw9]; exact grown_drewN HG8.out q9); clear hw9)
                | (go_at_call 19; with_reducible refine (HBA.out _ HG9.out).mono ?_; rintro e w10 ⟨hg10, rfl⟩; have HG10 := Lib.hid (grown_trans HG9.out hg10); clear hg10))
              go_ret
              exact ⟨rfl, HG10.out⟩
          · have k1b : 0 < ab := by omega
            go_enter Tryd.func5, Tryd.ntmps5
            go_wp2_with (first
              | (go_at_call 6; refine HAl.out.mono ?_; rintro e w1 ⟨rfl, hg1⟩; have HG1 := Lib.hid hg1; clear hg1)
              | (go_at_call 8; with_reducible refine (HRa.out w1).mono ?_; rintro e w2 ⟨hg2, a2, c2, rfl, hi2⟩; have HG2 := Lib.hid (grown_trans HG1.out hg2); have hcap2 := hi2.cap.2; have HI2 := Lib.hid (fun (W : World) (hW : w2.grownBy W none) => hi2.grown hW); clear hg2 hi2)
              | (go_at_call 8; with_reducible refine (HRb.out w2).mono ?_; rintro e w3 ⟨hg3, a3, c3, rfl, hi3⟩; have HG23 := Lib.hid hg3; have HG3 := Lib.hid (grown_trans HG2.out hg3); have HI3 := Lib.hid (fun (W : World) (hW : w3.grownBy W none) => hi3.grown hW); have HG34 : Hid (w3.grownBy w3 none) := Lib.hid (grown_refl _ _); have HG4 := HG3; clear hg3 hi3)
              | (go_at_call 19; with_reducible refine (HAB.out _ HG4.out).mono ?_; rintro e w5 ⟨hg5, rfl⟩; have HG35 := Lib.hid (grown_trans HG34.out hg5); have HG5 := Lib.hid (grown_trans HG4.out hg5); clear hg5)
              | (go_at_call 19; with_reducible refine (HBC.out _ HG5.out).mono ?_; rintro e w6 ⟨hg6, rfl⟩; have HG36 := Lib.hid (grown_trans HG35.out hg6); have HG6 := Lib.hid (grown_trans HG5.out hg6); clear hg6)
              | (go_at_call 19; with_reducible refine (HAC.out _ HG6.out).mono ?_; rintro e w7 ⟨hg7, rfl⟩; have HG37 := Lib.hid (grown_trans HG36.out hg7); have HG7 := Lib.hid (grown_trans HG6.out hg7); clear hg7)
              | (go_at_call 20; refine (HUn.out _ HG7.out).mono ?_; rintro e w8 ⟨hg8, rfl⟩; have HG38 := Lib.hid (grown_trans HG37.out hg8); have HG8 := Lib.hid (grown_trans HG7.out hg8); clear hg8)
              | (go_at_call 21; refine (HRC.out _ _ _ (by rw [HN.out] at HI2; rw [HN.out]; exact HI2.out _ (grown_trans HG23.out HG38.out)) (by rw [HM.out] at HI3; rw [HM.out]; exact HI3.out _ HG38.out)).mono ?_; rintro e w9 ⟨rfl, q9, hw9⟩; have HG9 : Hid (w.grownBy w9 none) := Lib.hid (by rw [hw9]; exact grown_drewN HG8.out q9); clear hw9)
              | (go_at_call 19; with_reducible refine (HBA.out _ HG9.out).mono ?_; rintro e w10 ⟨hg10, rfl⟩; have HG10 := Lib.hid (grown_trans HG9.out hg10); clear hg10))
            go_ret
            exact ⟨rfl, HG10.out⟩
      · have HUd : U = false := by rw [hU]; simp [h2]
        have k0 : (((eb : Nat) : Int) == 0) = false := by simp; omega
        subst HUd
        subst h1
        clear hU
        by_cases k1 : ab ≤ 0
        · by_cases k2 : bc ≤ 0
          · have k3 := HTr.out k1 k2
            go_enter Tryd.func5, Tryd.ntmps5
            go_wp2_with (first
              | (go_at_call 6; refine HAl.out.mono ?_; rintro e w1 ⟨rfl, hg1⟩; have HG1 := Lib.hid hg1; clear hg1)
              | (go_at_call 8; with_reducible refine (HRa.out w1).mono ?_; rintro e w2 ⟨hg2, a2, c2, rfl, hi2⟩; have HG2 := Lib.hid (grown_trans HG1.out hg2); have hcap2 := hi2.cap.2; have HI2 := Lib.hid (fun (W : World) (hW : w2.grownBy W none) => hi2.grown hW); clear hg2 hi2)
              | (go_at_call 8; with_reducible refine (HRb.out w2).mono ?_; rintro e w3 ⟨hg3, a3, c3, rfl, hi3⟩; have HG23 := Lib.hid hg3; have HG3 := Lib.hid (grown_trans HG2.out hg3); have HI3 := Lib.hid (fun (W : World) (hW : w3.grownBy W none) => hi3.grown hW); have HG34 : Hid (w3.grownBy w3 none) := Lib.hid (grown_refl _ _); have HG4 := HG3; clear hg3 hi3)
              | (go_at_call 19; with_reducible refine (HAB.out _ HG4.out).mono ?_; rintro e w5 ⟨hg5, rfl⟩; have HG35 := Lib.hid (grown_trans HG34.out hg5); have HG5 := Lib.hid (grown_trans HG4.out hg5); clear hg5)
              | (go_at_call 19; with_reducible refine (HBC.out _ HG5.out).mono ?_; rintro e w6 ⟨hg6, rfl⟩; have HG36 := Lib.hid (grown_trans HG35.out hg6); have HG6 := Lib.hid (grown_trans HG5.out hg6); clear hg6)
              | (go_at_call 19; with_reducible refine (HAC.out _ HG6.out).mono ?_; rintro e w7 ⟨hg7, rfl⟩; have HG37 := Lib.hid (grown_trans HG36.out hg7); have HG7 := Lib.hid (grown_trans HG6.out hg7); clear hg7)
              | (go_at_call 20; refine (HUn.out _ HG7.out).mono ?_; rintro e w8 ⟨hg8, rfl⟩; have HG38 := Lib.hid (grown_trans HG37.out hg8); have HG8 := Lib.hid (grown_trans HG7.out hg8); clear hg8)
              | (go_at_call 21; refine (HRC.out _ _ _ (by rw [HN.out] at HI2; rw [HN.out]; exact HI2.out _ (grown_trans HG23.out HG38.out)) (by rw [HM.out] at HI3; rw [HM.out]; exact HI3.out _ HG38.out)).mono ?_; rintro e w9 ⟨rfl, q9, hw9⟩; have HG9 : Hid (w.grownBy w9 none) := Lib.hid (by rw [hw9]; exact grown_drewN HG8.out q9); clear hw9)
              | (go_at_call 19; with_reducible refine (HBA.out _ HG9.out).mono ?_; rintro e w10 ⟨hg10, rfl⟩; have HG10 := Lib.hid (grown_trans HG9.out hg10); clear hg10))
            go_ret
            exact ⟨rfl, HG10.out⟩
          · have k2b : 0 < bc := by omega
            go_enter Tryd.func5, Tryd.ntmps5
            go_wp2_with (first
              | (go_at_call 6; refine HAl.out.mono ?_; rintro e w1 ⟨rfl, hg1⟩; have HG1 := Lib.hid hg1; clear hg1)
              | (go_at_call 8; with_reducible refine (HRa.out w1).mono ?_; rintro e w2 ⟨hg2, a2, c2, rfl, hi2⟩; have HG2 := Lib.hid (grown_trans HG1.out hg2); have hcap2 := hi2.cap.2; have HI2 := Lib.hid (fun (W : World) (hW : w2.grownBy W none) => hi2.grown hW); clear hg2 hi2)
              | (go_at_call 8; with_reducible refine (HRb.out w2).mono ?_; rintro e w3 ⟨hg3, a3, c3, rfl, hi3⟩; have HG23 := Lib.hid hg3; have HG3 := Lib.hid (grown_trans HG2.out hg3); have HI3 := Lib.hid (fun (W : World) (hW : w3.grownBy W none) => hi3.grown hW); have HG34 : Hid (w3.grownBy w3 none) := Lib.hid (grown_refl _ _); have HG4 := HG3; clear hg3 hi3)
              | (go_at_call 19; with_reducible refine (HAB.out _ HG4.out).mono ?_; rintro e w5 ⟨hg5, rfl⟩; have HG35 := Lib.hid (grown_trans HG34.out hg5); have HG5 := Lib.hid (grown_trans HG4.out hg5); clear hg5)
              | (go_at_call 19; with_reducible refine (HBC.out _ HG5.out).mono ?_; rintro e w6 ⟨hg6, rfl⟩; have HG36 := Lib.hid (grown_trans HG35.out hg6); have HG6 := Lib.hid (grown_trans HG5.out hg6); clear hg6)
              | (go_at_call 19; with_reducible refine (HAC.out _ HG6.out).mono ?_; rintro e w7 ⟨hg7, rfl⟩; have HG37 := Lib.hid (grown_trans HG36.out hg7); have HG7 := Lib.hid (grown_trans HG6.out hg7); clear hg7)
              | (go_at_call 20; refine (HUn.out _ HG7.out).mono ?_; rintro e w8 ⟨hg8, rfl⟩; have HG38 := Lib.hid (grown_trans HG37.out hg8); have HG8 := Lib.hid (grown_trans HG7.out hg8); clear hg8)
              | (go_at_call 21; refine (HRC.out _ _ _ (by rw [HN.out] at HI2; rw [HN.out]; exact HI2.out _ (grown_trans HG23.out HG38.out)) (by rw [HM.out] at HI3; rw [HM.out]; exact HI3.out _ HG38.out)).mono ?_; rintro e w9 ⟨rfl, q9, hw9⟩; have HG9 : Hid (w.grownBy w9 none) := Lib.hid (by rw [hw9]; exact grown_drewN HG8.out q9); clear hw9)
              | (go_at_call 19; with_reducible refine (HBA.out _ HG9.out).mono ?_; rintro e w10 ⟨hg10, rfl⟩; have HG10 := Lib.hid (grown_trans HG9.out hg10); clear hg10))
            go_ret
            exact ⟨rfl, HG10.out⟩
        · have k1b : 0 < ab := by omega
          go_enter Tryd.func5, Tryd.ntmps5
          go_wp2_with (first
            | (go_at_call 6; refine HAl.out.mono ?_; rintro e w1 ⟨rfl, hg1⟩; have HG1 := Lib.hid hg1; clear hg1)
            | (go_at_call 8; with_reducible refine (HRa.out w1).mono ?_; rintro e w2 ⟨hg2, a2, c2, rfl, hi2⟩; have HG2 := Lib.hid (grown_trans HG1.out hg2); have hcap2 := hi2.cap.2; have HI2 := Lib.hid (fun (W : World) (hW : w2.grownBy W none) => hi2.grown hW); clear hg2 hi2)
            | (go_at_call 8; with_reducible refine (HRb.out w2).mono ?_; rintro e w3 ⟨hg3, a3, c3, rfl, hi3⟩; have HG23 := Lib.hid hg3; have HG3 := Lib.hid (grown_trans HG2.out hg3); have HI3 := Lib.hid (fun (W : World) (hW : w3.grownBy W none) => hi3.grown hW); have HG34 : Hid (w3.grownBy w3 none) := Lib.hid (grown_refl _ _); have HG4 := HG3; clear hg3 hi3)
            | (go_at_call 19; with_reducible refine (HAB.out _ HG4.out).mono ?_; rintro e w5 ⟨hg5, rfl⟩; have HG35 := Lib.hid (grown_trans HG34.out hg5); have HG5 := Lib.hid (grown_trans HG4.out hg5); clear hg5)
            | (go_at_call 19; with_reducible refine (HBC.out _ HG5.out).mono ?_; rintro e w6 ⟨hg6, rfl⟩; have HG36 := Lib.hid (grown_trans HG35.out hg6); have HG6 := Lib.hid (grown_trans HG5.out hg6); clear hg6)
            | (go_at_call 19; with_reducible refine (HAC.out _ HG6.out).mono ?_; rintro e w7 ⟨hg7, rfl⟩; have HG37 := Lib.hid (grown_trans HG36.out hg7); have HG7 := Lib.hid (grown_trans HG6.out hg7); clear hg7)
            | (go_at_call 20; refine (HUn.out _ HG7.out).mono ?_; rintro e w8 ⟨hg8, rfl⟩; have HG38 := Lib.hid (grown_trans HG37.out hg8); have HG8 := Lib.hid (grown_trans HG7.out hg8); clear hg8)
            | (go_at_call 21; refine (HRC.out _ _ _ (by rw [HN.out] at HI2; rw [HN.out]; exact HI2.out _ (grown_trans HG23.out HG38.out)) (by rw [HM.out] at HI3; rw [HM.out]; exact HI3.out _ HG38.out)).mono ?_; rintro e w9 ⟨rfl, q9, hw9⟩; have HG9 : Hid (w.grownBy w9 none) := Lib.hid (by rw [hw9]; exact grown_drewN HG8.out q9); clear hw9)
            | (go_at_call 19; with_reducible refine (HBA.out _ HG9.out).mono ?_; rintro e w10 ⟨hg10, rfl⟩; have HG10 := Lib.hid (grown_trans HG9.out hg10); clear hg10))
          go_ret
          exact ⟨rfl, HG10.out⟩
    · have HUd : U = false := by rw [hU]; simp [h1]
      have k0 : (((ea : Nat) : Int) == 0) = false := by simp; omega
      subst HUd
      clear hU
      by_cases k1 : ab ≤ 0
      · by_cases k2 : bc ≤ 0
        · have k3 := HTr.out k1 k2
          go_enter Tryd.func5, Tryd.ntmps5
          go_wp2_with (first
            | (go_at_call 6; refine HAl.out.mono ?_; rintro e w1 ⟨rfl, hg1⟩; have HG1 := Lib.hid hg1; clear hg1)
            | (go_at_call 8; with_reducible refine (HRa.out w1).mono ?_; rintro e w2 ⟨hg2, a2, c2, rfl, hi2⟩; have HG2 := Lib.hid (grown_trans HG1.out hg2); have hcap2 := hi2.cap.2; have HI2 := Lib.hid (fun (W : World) (hW : w2.grownBy W none) => hi2.grown hW); clear hg2 hi2)
            | (go_at_call 8; with_reducible refine (HRb.out w2).mono ?_; rintro e w3 ⟨hg3, a3, c3, rfl, hi3⟩; have HG23 := Lib.hid hg3; have HG3 := Lib.hid (grown_trans HG2.out hg3); have HI3 := Lib.hid (fun (W : World) (hW : w3.grownBy W none) => hi3.grown hW); have HG34 : Hid (w3.grownBy w3 none) := Lib.hid (grown_refl _ _); have HG4 := HG3; clear hg3 hi3)
            | (go_at_call 19; with_reducible refine (HAB.out _ HG4.out).mono ?_; rintro e w5 ⟨hg5, rfl⟩; have HG35 := Lib.hid (grown_trans HG34.out hg5); have HG5 := Lib.hid (grown_trans HG4.out hg5); clear hg5)
            | (go_at_call 19; with_reducible refine (HBC.out _ HG5.out).mono ?_; rintro e w6 ⟨hg6, rfl⟩; have HG36 := Lib.hid (grown_trans HG35.out hg6); have HG6 := Lib.hid (grown_trans HG5.out hg6); clear hg6)
            | (go_at_call 19; with_reducible refine (HAC.out _ HG6.out).mono ?_; rintro e w7 ⟨hg7, rfl⟩; have HG37 := Lib.hid (grown_trans HG36.out hg7); have HG7 := Lib.hid (grown_trans HG6.out hg7); clear hg7)
            | (go_at_call 20; refine (HUn.out _ HG7.out).mono ?_; rintro e w8 ⟨hg8, rfl⟩; have HG38 := Lib.hid (grown_trans HG37.out hg8); have HG8 := Lib.hid (grown_trans HG7.out hg8); clear hg8)
            | (go_at_call 21; refine (HRC.out _ _ _ (by rw [HN.out] at HI2; rw [HN.out]; exact HI2.out _ (grown_trans HG23.out HG38.out)) (by rw [HM.out] at HI3; rw [HM.out]; exact HI3.out _ HG38.out)).mono ?_; rintro e w9 ⟨rfl, q9, hw9⟩; have HG9 : Hid (w.grownBy w9 none) := Lib.hid (by rw [hw9]; exact grown_drewN HG8.out q9); clear hw9)
            | (go_at_call 19; with_reducible refine (HBA.out _ HG9.out).mono ?_; rintro e w10 ⟨hg10, rfl⟩; have HG10 := Lib.hid (grown_trans HG9.out hg10); clear hg10))
          go_ret
          exact ⟨rfl, HG10.out⟩
        · have k2b : 0 < bc := by omega
          go_enter Tryd.func5, Tryd.ntmps5
          go_wp2_with (first
            | (go_at_call 6; refine HAl.out.mono ?_; rintro e w1 ⟨rfl, hg1⟩; have HG1 := Lib.hid hg1; clear hg1)
            | (go_at_call 8; with_reducible refine (HRa.out w1).mono ?_; rintro e w2 ⟨hg2, a2, c2, rfl, hi2⟩; have HG2 := Lib.hid (grown_trans HG1.out hg2); have hcap2 := hi2.cap.2; have HI2 := Lib.hid (fun (W : World) (hW : w2.grownBy W none) => hi2.grown hW); clear hg2 hi2)
            | (go_at_call 8; with_reducible refine (HRb.out w2).mono ?_; rintro e w3 ⟨hg3, a3, c3, rfl, hi3⟩; have HG23 := Lib.hid hg3; have HG3 := Lib.hid (grown_trans HG2.out hg3); have HI3 := Lib.hid (fun (W : World) (hW : w3.grownBy W none) => hi3.grown hW); have HG34 : Hid (w3.grownBy w3 none) := Lib.hid (grown_refl _ _); have HG4 := HG3; clear hg3 hi3)
            | (go_at_call 19; with_reducible refine (HAB.out _ HG4.out).mono ?_; rintro e w5 ⟨hg5, rfl⟩; have HG35 := Lib.hid (grown_trans HG34.out hg5); have HG5 := Lib.hid (grown_trans HG4.out hg5); clear hg5)
            | (go_at_call 19; with_reducible refine (HBC.out _ HG5.out).mono ?_; rintro e w6 ⟨hg6, rfl⟩; have HG36 := Lib.hid (grown_trans HG35.out hg6); have HG6 := Lib.hid (grown_trans HG5.out hg6); clear hg6)
            | (go_at_call 19; with_reducible refine (HAC.out _ HG6.out).mono ?_; rintro e w7 ⟨hg7, rfl⟩; have HG37 := Lib.hid (grown_trans HG36.out hg7); have HG7 := Lib.hid (grown_trans HG6.out hg7); clear hg7)
            | (go_at_call 20; refine (HUn.out _ HG7.out).mono ?_; rintro e w8 ⟨hg8, rfl⟩; have HG38 := Lib.hid (grown_trans HG37.out hg8); have HG8 := Lib.hid (grown_trans HG7.out hg8); clear hg8)
            | (go_at_call 21; refine (HRC.out _ _ _ (by rw [HN.out] at HI2; rw [HN.out]; exact HI2.out _ (grown_trans HG23.out HG38.out)) (by rw [HM.out] at HI3; rw [HM.out]; exact HI3.out _ HG38.out)).mono ?_; rintro e w9 ⟨rfl, q9, hw9⟩; have HG9 : Hid (w.grownBy w9 none) := Lib.hid (by rw [hw9]; exact grown_drewN HG8.out q9); clear hw9)
            | (go_at_call 19; with_reducible refine (HBA.out _ HG9.out).mono ?_; rintro e w10 ⟨hg10, rfl⟩; have HG10 := Lib.hid (grown_trans HG9.out hg10); clear hg10))
          go_ret
          exact ⟨rfl, HG10.out⟩
      · have k1b : 0 < ab := by omega
        go_enter Tryd.func5, Tryd.ntmps5
        go_wp2_with (first
          | (go_at_call 6; refine HAl.out.mono ?_; rintro e w1 ⟨rfl, hg1⟩; have HG1 := Lib.hid hg1; clear hg1)
          | (go_at_call 8; with_reducible refine (HRa.out w1).mono ?_; rintro e w2 ⟨hg2, a2, c2, rfl, hi2⟩; have HG2 := Lib.hid (grown_trans HG1.out hg2); have hcap2 := hi2.cap.2; have HI2 := Lib.hid (fun (W : World) (hW : w2.grownBy W none) => hi2.grown hW); clear hg2 hi2)
          | (go_at_call 8; with_reducible refine (HRb.out w2).mono ?_; rintro e w3 ⟨hg3, a3, c3, rfl, hi3⟩; have HG23 := Lib.hid hg3; have HG3 := Lib.hid (grown_trans HG2.out hg3); have HI3 := Lib.hid (fun (W : World) (hW : w3.grownBy W none) => hi3.grown hW); have HG34 : Hid (w3.grownBy w3 none) := Lib.hid (grown_refl _ _); have HG4 := HG3; clear hg3 hi3)
          | (go_at_call 19; with_reducible refine (HAB.out _ HG4.out).mono ?_; rintro e w5 ⟨hg5, rfl⟩; have HG35 := Lib.hid (grown_trans HG34.out hg5); have HG5 := Lib.hid (grown_trans HG4.out hg5); clear hg5)
          | (go_at_call 19; with_reducible refine (HBC.out _ HG5.out).mono ?_; rintro e w6 ⟨hg6, rfl⟩; have HG36 := Lib.hid (grown_trans HG35.out hg6); have HG6 := Lib.hid (grown_trans HG5.out hg6); clear hg6)
          | (go_at_call 19; with_reducible refine (HAC.out _ HG6.out).mono ?_; rintro e w7 ⟨hg7, rfl⟩; have HG37 := Lib.hid (grown_trans HG36.out hg7); have HG7 := Lib.hid (grown_trans HG6.out hg7); clear hg7)
          | (go_at_call 20; refine (HUn.out _ HG7.out).mono ?_; rintro e w8 ⟨hg8, rfl⟩; have HG38 := Lib.hid (grown_trans HG37.out hg8); have HG8 := Lib.hid (grown_trans HG7.out hg8); clear hg8)
          | (go_at_call 21; refine (HRC.out _ _ _ (by rw [HN.out] at HI2; rw [HN.out]; exact HI2.out _ (grown_trans HG23.out HG38.out)) (by rw [HM.out] at HI3; rw [HM.out]; exact HI3.out _ HG38.out)).mono ?_; rintro e w9 ⟨rfl, q9, hw9⟩; have HG9 : Hid (w.grownBy w9 none) := Lib.hid (by rw [hw9]; exact grown_drewN HG8.out q9); clear hw9)
          | (go_at_call 19; with_reducible refine (HBA.out _ HG9.out).mono ?_; rintro e w10 ⟨hg10, rfl⟩; have HG10 := Lib.hid (grown_trans HG9.out hg10); clear hg10))
        go_ret
        exact ⟨rfl, HG10.out⟩
  · clear hCm hUn
    by_cases h1 : 400 < a.size
    · clear hbig
      go_enter Tryd.func5, Tryd.ntmps5
      go_wp2_with (go_at_call 6; refine HAl.out.mono ?_; rintro e w1 ⟨rfl, hg1⟩; have HG1 := Lib.hid hg1; clear hg1)
      go_ret
      exact ⟨rfl, HG1.out⟩
    · by_cases h2 : 400 < b.size
      · clear hbig
        go_enter Tryd.func5, Tryd.ntmps5
        go_wp2_with (go_at_call 6; refine HAl.out.mono ?_; rintro e w1 ⟨rfl, hg1⟩; have HG1 := Lib.hid hg1; clear hg1)
        go_ret
        exact ⟨rfl, HG1.out⟩
      · have h3 : 400 < c.size := by omega
        clear hbig
        go_enter Tryd.func5, Tryd.ntmps5
        go_wp2_with (go_at_call 6; refine HAl.out.mono ?_; rintro e w1 ⟨rfl, hg1⟩; have HG1 := Lib.hid hg1; clear hg1)
        go_ret
        exact ⟨rfl, HG1.out⟩
end Go.Proofs.YtflelmbkndmcgaaDoor
