/- The walk of the law MacNumbers. -/
import Derived.Test.YtndgbhgalablfaaDoorMn3
import Derived.Test.YtndgbhgalablfaaDoorMn4
import Derived.Test.YtndgbhgalablfaaDoorMs6
import Derived.Test.YtndgbhgalablfaaDoorTl7
namespace Go.Proofs.YtndgbhgalablfaaDoor
open Go.RowKit

theorem errs_of_all {w : World} {A : Nat → Addr} (h : AllErrs w A) : Errs w (errV A 8) (errV A 3) := by
  have e8 := errs_at h 8 (by decide)
  have e3 := errs_at h 3 (by decide)
  simp only [errVars, List.getD_cons_zero, List.getD_cons_succ, Nat.add_one_sub_one] at e8 e3
  exact ⟨e8, e3, h.lt 7 (by decide), h.lt 2 (by decide)⟩

set_option maxRecDepth 100000 in
set_option maxHeartbeats 2000000 in
theorem macNumbers_any (A : Nat → Addr) (s : ByteArray) (v : Value) (l : List Nat) (w : World) (hs : s.size ≤ 9223372036854775807) (hB : Bytes w v l) (hl : l.length ≤ 9223372036854775807) (hE : AllErrs w A) :
    Calls Tryd.prog 4 #[.string s, v] w fun e w' => e = .returned (.bool true) ∧ w.grownBy w' none := by
  have HAl := Lib.hid (alive2_any w _ _ (errs_of_all hE))
  have HE := Lib.hid hE
  have HB := Lib.hid hB
  obtain ⟨_, va, vsb, vso, vc, rfl, _⟩ := hB
  obtain ⟨n, hn⟩ : ∃ n, n = l.length := ⟨_, rfl⟩
  have HN := Lib.hid hn
  rw [← hn] at HB hl ⊢
  obtain ⟨m, hm⟩ : ∃ m, m = s.size := ⟨_, rfl⟩
  have HM := Lib.hid hm
  have hsm : ((s.size : Nat) : Int) = (m : Int) := by rw [hm]
  clear hE hn hm hs
  by_cases hlong : 100 < m ∨ 100 < n
  · by_cases h1 : 100 < m
    · have d1 : decide ((100 : Int) < (m : Int)) = true := decide_eq_true (by omega)
      clear hlong h1
      go_enter Tryd.func4, Tryd.ntmps4
      go_wp2_with (go_at_call 8; refine HAl.out.mono ?_; rintro e w2 ⟨rfl, hg2⟩)
      go_ret
      exact ⟨rfl, hg2⟩
    · have d1 : decide ((100 : Int) < (m : Int)) = false := decide_eq_false (by omega)
      have d2 : decide ((100 : Int) < (n : Int)) = true := decide_eq_true (by omega)
      clear hlong h1
      go_enter Tryd.func4, Tryd.ntmps4
      go_wp2_with (go_at_call 8; refine HAl.out.mono ?_; rintro e w2 ⟨rfl, hg2⟩)
      go_ret
      exact ⟨rfl, hg2⟩
  · have d1 : decide ((100 : Int) < (m : Int)) = false := decide_eq_false (by omega)
    have d2 : decide ((100 : Int) < (n : Int)) = false := decide_eq_false (by omega)
    have hm100 : s.size ≤ 100 := by have := HM.out; omega
    have hn100 : n ≤ 100 := by omega
    have HYs := Lib.hid (fun (t : ByteArray) (ht : t.size ≤ 100) W (hW : w.grownBy W none) => bytes_any A t W (by omega) (HE.out.grown hW))
    have HRb := Lib.hid (fun W => refBytes_any s W (by omega))
    have HNb := Lib.hid (fun (u : Value) (x : List Nat) (hx : x.length ≤ 100) W (hW : w.grownBy W none) (hb : Bytes W u x) => number16_any A u x W hb (by omega) (HE.out.grown hW))
    have HNu := Lib.hid (fun W (hW : w.grownBy W none) => num_at A 4 (by decide) W (HE.out.grown hW))
    have HRT := Lib.hid (fun W (hW : w.grownBy W none) => refText_any _ l W (HB.out.grown hW) (by rw [← HN.out]; omega))
    have hs100 := Lib.hid hm100
    clear hlong hl
    obtain ⟨S, hS⟩ : ∃ S, S = strOf (hexL l) := ⟨_, rfl⟩
    rw [← hS] at HRT
    have hSl : n = 16 → S.size ≤ 100 ∧ strL S = hexL l := fun h => by
      have e : strL S = hexL l := by rw [hS]; exact strL_strOf (hexL_lt HB.out.lt)
      exact ⟨by rw [← strL_len, e, hexL_len, ← HN.out, h]; decide, e⟩
    have HSl := Lib.hid hSl
    have HS := Lib.hid hS
    have HN16 : Hid (n = 16 → ∀ W, w.grownBy W none → Calls Tryd.prog 17 #[.slice va n vc] W fun e w' => e = .returned (.tuple #[.string S, .nilIface]) ∧ W.grownBy w' none) := Lib.hid (fun h W hW => (HNb.out _ l (by rw [← HN.out]; omega) W hW (HB.out.grown hW)).mono (by
      rintro e w' ⟨hp, hg⟩
      unfold NbPost at hp
      rw [if_pos (by rw [← HN.out]; exact h), ← HS.out] at hp
      exact ⟨hp, hg⟩))
    have HNo : Hid (n ≠ 16 → ∀ W, w.grownBy W none → Calls Tryd.prog 17 #[.slice va n vc] W fun e w' => e = .returned (.tuple #[.string ⟨#[]⟩, errV A 4]) ∧ W.grownBy w' none) := Lib.hid (fun h W hW => (HNb.out _ l (by rw [← HN.out]; omega) W hW (HB.out.grown hW)).mono (by
      rintro e w' ⟨hp, hg⟩
      unfold NbPost at hp
      rw [if_neg (by rw [← HN.out]; exact h)] at hp
      exact ⟨hp, hg⟩))
    have HY16 : Hid (n = 16 → ∀ W, w.grownBy W none → Calls Tryd.prog 15 #[.string S] W fun e w' => (∃ a c, e = .returned (.tuple #[.slice a 16 c, .nilIface]) ∧ Bytes w' (.slice a 16 c) l) ∧ W.grownBy w' none) := Lib.hid (fun h W hW => (HYs.out S (HSl.out h).1 W hW).mono (by
      rintro e w' ⟨hp, hg⟩
      unfold ByPost at hp
      rw [(HSl.out h).2, if_pos ⟨by rw [hexL_len, ← HN.out, h], hexOk_hexL l HB.out.lt⟩, unhex_hexL l HB.out.lt] at hp
      obtain ⟨a, c, h1, h2, _⟩ := hp
      exact ⟨⟨a, c, h1, h2⟩, hg⟩))
    have CV : Hid (∀ (u : Value) (x : List Nat) W, Bytes W u x → (convert 22 9 u).run Tryd.prog W = .ok (.string (strOf x)) W) := Lib.hid (fun u x W hb => conv_bytes hb _ 5 _ Tryd.underlying22 Tryd.underlying5 Tryd.underlying9)
    clear hS hSl
    by_cases hgood : (strL s).length = 32 ∧ hexOk (strL s) = true
    · obtain ⟨h32, hok⟩ := hgood
      obtain ⟨U, hU⟩ : ∃ U, U = unhex (strL s) := ⟨_, rfl⟩
      have hUl : U.length = 16 := by rw [hU, unhex_len, h32]
      have hback : strOf (hexL U) = s := by rw [hU, hexL_unhex _ hok (by rw [h32]), strOf_strL]
      have HX1 : Hid (∀ W, w.grownBy W none → Calls Tryd.prog 15 #[.string s] W fun e w' => (∃ a c, e = .returned (.tuple #[.slice a 16 c, .nilIface]) ∧ Bytes w' (.slice a 16 c) U) ∧ W.grownBy w' none) := Lib.hid (fun W hW => (HYs.out s hs100.out W hW).mono (by
        rintro e w' ⟨hp, hg⟩
        unfold ByPost at hp
        rw [if_pos ⟨h32, hok⟩, ← hU] at hp
        obtain ⟨a, c, h1, h2, _⟩ := hp
        exact ⟨⟨a, c, h1, h2⟩, hg⟩))
      have HX2 : Hid (∀ W, Calls Tryd.prog 16 #[.string s] W fun e w' => (∃ a m c, e = .returned (.tuple #[.slice a m c, .bool true]) ∧ Bytes w' (.slice a m c) U) ∧ W.grownBy w' none) := Lib.hid (fun W => (HRb.out W).mono (by
        rintro e w' ⟨hp, hg⟩
        rcases hp with ⟨h, _⟩ | ⟨h1, a, m, c, h2, h3⟩
        · rw [hok] at h; cases h
        · rw [decide_eq_true h32] at h2
          have := (h3 h32).2
          rw [← hU] at this
          exact ⟨⟨_, _, _, h2, this⟩, hg⟩))
      have HX3 : Hid (∀ u W, w.grownBy W none → Bytes W u U → Calls Tryd.prog 17 #[u] W fun e w' => e = .returned (.tuple #[.string s, .nilIface]) ∧ W.grownBy w' none) := Lib.hid (fun u W hW hb => (HNb.out u U (by rw [hUl]; decide) W hW hb).mono (by
        rintro e w' ⟨hp, hg⟩
        unfold NbPost at hp
        rw [if_pos hUl, hback] at hp
        exact ⟨hp, hg⟩))
      clear h32 hok hU hUl hback
      by_cases h16 : n = 16
      · have d16 : ((n : Int) != 16) = false := by rw [h16]; rfl
        have N16 := Lib.hid (HN16.out h16)
        have Y16 := Lib.hid (HY16.out h16)
        have H16 := Lib.hid h16
        clear h16 hn100 hm100
        go_enter Tryd.func4, Tryd.ntmps4
        go_wp2_with (first
          | (go_at_call 8; refine HAl.out.mono ?_; rintro e w2 ⟨rfl, hg2⟩; have G2 := Lib.hid hg2; clear hg2)
          | (go_at_call 15; first | (with_reducible refine (HX1.out _ G2.out).mono ?_; rintro e w3 ⟨⟨a3, c3, rfl, hb3⟩, hg3⟩; have G3 := Lib.hid (grown_trans G2.out hg3); have B3 := Lib.hid hb3; clear hb3 hg3) | (with_reducible refine (Y16.out _ G6.out).mono ?_; rintro e w7 ⟨⟨a7, c7, rfl, hb7⟩, hg7⟩; have G7 := Lib.hid (grown_trans G6.out hg7); have cv1 := CV.out _ _ _ hb7; have cv2 := CV.out _ _ _ (HB.out.grown G7.out); have B7 := Lib.hid hb7; clear hb7 hg7))
          | (go_at_call 16; refine (HX2.out _).mono ?_; rintro e w4 ⟨⟨a4, m4, c4, rfl, hb4⟩, hg4⟩; have G4 := Lib.hid (grown_trans G3.out hg4); have B34 := Lib.hid (B3.out.grown hg4); have B4 := Lib.hid hb4; clear hb4 hg4)
          | (go_at_call 17; first | (with_reducible refine (HX3.out _ _ G4.out B34.out).mono ?_; rintro e w5 ⟨rfl, hg5⟩; have G5 := Lib.hid (grown_trans G4.out hg5); have cu1 := CV.out _ _ _ (B34.out.grown hg5); have cu2 := CV.out _ _ _ (B4.out.grown hg5); clear hg5) | (with_reducible refine (N16.out _ G5.out).mono ?_; rintro e w6 ⟨rfl, hg6⟩; have G6 := Lib.hid (grown_trans G5.out hg6); clear hg6 cu1 cu2))
          | (go_at_call 18; refine (HRT.out _ G7.out).mono ?_; rintro e w8 ⟨rfl, hg8⟩; have G8 := Lib.hid (grown_trans G7.out hg8); have cv3 := CV.out _ _ _ (B7.out.grown hg8); have cv4 := CV.out _ _ _ (HB.out.grown G8.out); clear hg8 cv1 cv2))
        go_ret
        exact ⟨by simp, G8.out⟩
      · have d16 : ((n : Int) != 16) = true := by simp; omega
        have No := Lib.hid (HNo.out h16)
        have H16 := Lib.hid h16
        clear h16 hn100 hm100
        go_enter Tryd.func4, Tryd.ntmps4
        go_wp2_with (first
          | (go_at_call 8; refine HAl.out.mono ?_; rintro e w2 ⟨rfl, hg2⟩; have G2 := Lib.hid hg2; clear hg2)
          | (go_at_call 15; first | (with_reducible refine (HX1.out _ G2.out).mono ?_; rintro e w3 ⟨⟨a3, c3, rfl, hb3⟩, hg3⟩; have G3 := Lib.hid (grown_trans G2.out hg3); have B3 := Lib.hid hb3; clear hb3 hg3))
          | (go_at_call 16; refine (HX2.out _).mono ?_; rintro e w4 ⟨⟨a4, m4, c4, rfl, hb4⟩, hg4⟩; have G4 := Lib.hid (grown_trans G3.out hg4); have B34 := Lib.hid (B3.out.grown hg4); have B4 := Lib.hid hb4; clear hb4 hg4)
          | (go_at_call 17; first | (with_reducible refine (HX3.out _ _ G4.out B34.out).mono ?_; rintro e w5 ⟨rfl, hg5⟩; have G5 := Lib.hid (grown_trans G4.out hg5); have cu1 := CV.out _ _ _ (B34.out.grown hg5); have cu2 := CV.out _ _ _ (B4.out.grown hg5); clear hg5) | (with_reducible refine (No.out _ G5.out).mono ?_; rintro e w6 ⟨rfl, hg6⟩; have G6 := Lib.hid (grown_trans G5.out hg6); clear hg6 cu1 cu2))
          | (go_at_call 13; refine (HNu.out _ G6.out).mono ?_; rintro e w9 ⟨rfl, hg9⟩; have G9 := Lib.hid (grown_trans G6.out hg9); clear hg9))
        go_ret
        exact ⟨by simp, G9.out⟩
    · have HX1 : Hid (∀ W, w.grownBy W none → Calls Tryd.prog 15 #[.string s] W fun e w' => e = .returned (.tuple #[.slice none 0 0, errV A 4]) ∧ W.grownBy w' none) := Lib.hid (fun W hW => (HYs.out s hs100.out W hW).mono (by
        rintro e w' ⟨hp, hg⟩
        unfold ByPost at hp
        rw [if_neg hgood] at hp
        exact ⟨hp, hg⟩))
      have HX2 : Hid (∀ W, Calls Tryd.prog 16 #[.string s] W fun e w' => (∃ a m c, e = .returned (.tuple #[.slice a m c, .bool false])) ∧ W.grownBy w' none) := Lib.hid (fun W => (HRb.out W).mono (by
        rintro e w' ⟨hp, hg⟩
        rcases hp with ⟨_, h⟩ | ⟨h1, a, m, c, h2, _⟩
        · exact ⟨⟨_, _, _, h⟩, hg⟩
        · rw [decide_eq_false (fun h32 => hgood ⟨h32, h1⟩)] at h2
          exact ⟨⟨_, _, _, h2⟩, hg⟩))
      clear hgood
      by_cases h16 : n = 16
      · have d16 : ((n : Int) != 16) = false := by rw [h16]; rfl
        have N16 := Lib.hid (HN16.out h16)
        have Y16 := Lib.hid (HY16.out h16)
        have H16 := Lib.hid h16
        clear h16 hn100 hm100
        go_enter Tryd.func4, Tryd.ntmps4
        go_wp2_with (first
          | (go_at_call 8; refine HAl.out.mono ?_; rintro e w2 ⟨rfl, hg2⟩; have G2 := Lib.hid hg2; clear hg2)
          | (go_at_call 15; first | (with_reducible refine (HX1.out _ G2.out).mono ?_; rintro e w3 ⟨rfl, hg3⟩; have G3 := Lib.hid (grown_trans G2.out hg3); clear hg3) | (with_reducible refine (Y16.out _ G6.out).mono ?_; rintro e w7 ⟨⟨a7, c7, rfl, hb7⟩, hg7⟩; have G7 := Lib.hid (grown_trans G6.out hg7); have cv1 := CV.out _ _ _ hb7; have cv2 := CV.out _ _ _ (HB.out.grown G7.out); have B7 := Lib.hid hb7; clear hb7 hg7))
          | (go_at_call 16; refine (HX2.out _).mono ?_; rintro e w4 ⟨⟨a4, m4, c4, rfl⟩, hg4⟩; have G4 := Lib.hid (grown_trans G3.out hg4); clear hg4)
          | (go_at_call 13; refine (HNu.out _ G4.out).mono ?_; rintro e w5 ⟨rfl, hg5⟩; have G5 := Lib.hid (grown_trans G4.out hg5); clear hg5)
          | (go_at_call 17; refine (N16.out _ G5.out).mono ?_; rintro e w6 ⟨rfl, hg6⟩; have G6 := Lib.hid (grown_trans G5.out hg6); clear hg6)
          | (go_at_call 18; refine (HRT.out _ G7.out).mono ?_; rintro e w8 ⟨rfl, hg8⟩; have G8 := Lib.hid (grown_trans G7.out hg8); have cv3 := CV.out _ _ _ (B7.out.grown hg8); have cv4 := CV.out _ _ _ (HB.out.grown G8.out); clear hg8 cv1 cv2))
        go_ret
        exact ⟨by simp, G8.out⟩
      · have d16 : ((n : Int) != 16) = true := by simp; omega
        have No := Lib.hid (HNo.out h16)
        have H16 := Lib.hid h16
        clear h16 hn100 hm100
        go_enter Tryd.func4, Tryd.ntmps4
        go_wp2_with (first
          | (go_at_call 8; refine HAl.out.mono ?_; rintro e w2 ⟨rfl, hg2⟩; have G2 := Lib.hid hg2; clear hg2)
          | (go_at_call 15; (with_reducible refine (HX1.out _ G2.out).mono ?_; rintro e w3 ⟨rfl, hg3⟩; have G3 := Lib.hid (grown_trans G2.out hg3); clear hg3))
          | (go_at_call 16; refine (HX2.out _).mono ?_; rintro e w4 ⟨⟨a4, m4, c4, rfl⟩, hg4⟩; have G4 := Lib.hid (grown_trans G3.out hg4); clear hg4)
          | (go_at_call 13; first | (with_reducible refine (HNu.out w4 G4.out).mono ?_; rintro e w5 ⟨rfl, hg5⟩; have G5 := Lib.hid (grown_trans G4.out hg5); clear hg5) | (refine (HNu.out _ G6.out).mono ?_; rintro e w9 ⟨rfl, hg9⟩; have G9 := Lib.hid (grown_trans G6.out hg9); clear hg9))
          | (go_at_call 17; refine (No.out _ G5.out).mono ?_; rintro e w6 ⟨rfl, hg6⟩; have G6 := Lib.hid (grown_trans G5.out hg6); clear hg6))
        go_ret
        exact ⟨by simp, G9.out⟩
end Go.Proofs.YtndgbhgalablfaaDoor
