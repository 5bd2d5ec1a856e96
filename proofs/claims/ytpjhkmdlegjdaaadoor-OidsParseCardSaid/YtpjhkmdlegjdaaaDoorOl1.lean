/- The walk of the law OidsParse, over what is asked of package oids. -/
import Derived.Test.YtpjhkmdlegjdaaaDoorOl0
import Derived.Test.YtpjhkmdlegjdaaaDoorOr2
import Derived.Test.YtpjhkmdlegjdaaaDoorNm3
namespace Go.Proofs.YtpjhkmdlegjdaaaDoor
open Go.RowKit

/-- oids.Get reads a right body's text. -/
def GtSpec (w : World) : Prop := ∀ (v : Value) (b : List Nat) (l : List Int) (W : World), w.grownBy W none → Bytes W v b → b.length ≤ 100000 → Od.get b = .ok l → Calls Tryd.prog 12 #[v] W fun e w' => W.grownBy w' none ∧ e = .returned (.tuple #[.string (strOf (Od.text l)), .nilIface])

theorem rest_lt : ∀ (l : List Int), ∀ x ∈ Od.rest l, x < 256
  | [], x, h => by simp [Od.rest] at h
  | n :: r, x, h => by
    rw [Od.rest] at h
    rcases List.mem_append.1 h with h | h
    · exact Od.septUpto_lt _ 6 x h
    · exact rest_lt r x h
theorem putLen {l : List Int} (h : Od.right l = true) : (Od.put l).length ≤ 90 := by
  have h16 := ((Od.right_iff l).1 h).1.2.1
  have h1 := Od.rest_len (l.drop 2)
  have h2 := Od.sept_len (40 * (l.getD 0 0).toNat + (l.getD 1 0).toNat)
  rw [List.length_drop] at h1
  rw [Od.put, List.length_append]
  omega

set_option maxRecDepth 100000 in
set_option maxHeartbeats 2000000 in
theorem oidsParse_any (A : Nat → Addr) (s : ByteArray) (w : World) (hE : AllErrs w A) (hPa : PaSpec A w) (hPt : PtSpec A w) (hGt : GtSpec w) :
    Calls Tryd.prog 3 #[.string s] w fun e w' => e = .returned (.bool true) ∧ w.grownBy w' none := by
  have HAl := Lib.hid (alive5_any A w hPt)
  have HE := Lib.hid (fun W hW => hE.grown (w' := W) hW)
  have e0 : errOf A 0 = .nilIface := rfl
  by_cases h400 : 400 < s.size
  · clear hE hPa hPt hGt
    go_enter Tryd.func3, Tryd.ntmps3
    go_wp2_with (go_at_call 6; refine HAl.out.mono ?_; rintro e w1 ⟨rfl, hg1⟩; have HG1 := Lib.hid hg1; clear hg1)
    go_ret
    exact ⟨rfl, HG1.out⟩
  have hPa' := fun W hW => hPa s W (by omega) hW
  have hPt' := fun W hW => hPt s W (by omega) hW
  have hRf := fun W => refParse_any s W (by omega)
  have hNil : Hid (∀ (a b : Option Addr) (c d : Nat) (W : World), Ints W (.slice a 0 c) [] → Ints W (.slice b 0 d) [] → Calls Tryd.prog 11 #[.slice a 0 c, .slice b 0 d] W fun e w' => e = .returned (.bool true) ∧ W.grownBy w' none) := Lib.hid (fun a b c d W h1 h2 => (sameI_any _ _ [] [] W h1 h2 (by simp) (by simp)).mono (by
    rintro e w' ⟨rfl, q, hq⟩
    exact ⟨rfl, by rw [hq]; exact grown_drewN (grown_refl _ _) _⟩))
  cases hp : Od.parse (strL s) with
  | error k =>
    rw [hp] at hPa' hPt' hRf
    have HPa : Hid (∀ W, w.grownBy W none → Calls Tryd.prog 7 #[.string s] W fun e w' => W.grownBy w' none ∧ ∃ a c, e = .returned (.tuple #[.slice a 0 c, errV A k]) ∧ Ints w' (.slice a 0 c) []) := Lib.hid hPa'
    have HPt : Hid (∀ W, w.grownBy W none → Calls Tryd.prog 9 #[.string s] W fun e w' => W.grownBy w' none ∧ ∃ a c, e = .returned (.tuple #[.slice a 0 c, errV A k]) ∧ Bytes w' (.slice a 0 c) []) := Lib.hid hPt'
    have HRf : Hid (∀ W, Calls Tryd.prog 8 #[.string s] W fun e w' => e = .returned (.tuple #[.slice none 0 0, .int .i64 k]) ∧ W.grownBy w' none) := Lib.hid hRf
    have hk := parseErr hp
    have hk28 : k ≤ 28 := by omega
    have hk0 : k ≠ 0 := by omega
    have hek : errOf A k = errV A k := by rw [errOf, if_neg hk0]
    have hNm := fun W hW => num_of A k hk28 W (HE.out W hW)
    rw [hek] at hNm
    have HNm := Lib.hid hNm
    have hkb : (((k : Nat) : Int) != 0) = true := by simp; omega
    clear hp hPa' hPt' hRf hk hk28 hk0 hek hNm hE hPa hPt hGt
    go_enter Tryd.func3, Tryd.ntmps3
    go_wp2_with (first
      | (go_at_call 6; refine HAl.out.mono ?_; rintro e w1 ⟨rfl, hg1⟩; have HG := Lib.hid hg1; clear hg1)
      | (go_at_call 7; refine (HPa.out _ HG.out).mono ?_; rintro e w2 ⟨hg2, a2, c2, rfl, hi2⟩; have HG2 := Lib.hid (grown_trans HG.out hg2); have HI2 := Lib.hid (fun (W : World) (hW : w2.grownBy W none) => hi2.grown hW); clear hg2 hi2)
      | (go_at_call 8; refine (HRf.out _).mono ?_; rintro e w3 ⟨rfl, hg3⟩; have HG23 := Lib.hid hg3; have HG3 := Lib.hid (grown_trans HG2.out hg3); clear hg3)
      | (go_at_call 9; refine (HPt.out _ HG3.out).mono ?_; rintro e w4 ⟨hg4, a4, c4, rfl, _⟩; have HG24 := Lib.hid (grown_trans HG23.out hg4); have HG4 := Lib.hid (grown_trans HG3.out hg4); clear hg4)
      | (go_at_call 10; with_reducible refine (HNm.out _ HG4.out).mono ?_; rintro e w5 ⟨rfl, hg5⟩; have HG25 := Lib.hid (grown_trans HG24.out hg5); have HG5 := Lib.hid (grown_trans HG4.out hg5); clear hg5)
      | (go_at_call 10; with_reducible refine (HNm.out _ HG5.out).mono ?_; rintro e w6 ⟨rfl, hg6⟩; have HG26 := Lib.hid (grown_trans HG25.out hg6); have HG6 := Lib.hid (grown_trans HG5.out hg6); clear hg6)
      | (go_at_call 11; refine (hNil.out _ _ _ _ _ (HI2.out _ HG26.out) (Ints.nil _)).mono ?_; rintro e w7 ⟨rfl, hg7⟩; have HG7 := Lib.hid (grown_trans HG6.out hg7); clear hg7))
    go_ret
    exact ⟨rfl, HG7.out⟩
  | ok l =>
    rw [hp] at hPa' hPt' hRf
    have hr := (Od.parse_ok hp).2
    have h16 := ((Od.right_iff l).1 hr).1.2.1
    have hts : strOf (Od.text l) = s := by rw [Od.text_parse hp, strOf_strL]
    have HPa : Hid (∀ W, w.grownBy W none → Calls Tryd.prog 7 #[.string s] W fun e w' => W.grownBy w' none ∧ ∃ a c, e = .returned (.tuple #[.slice a l.length c, .nilIface]) ∧ Ints w' (.slice a l.length c) l) := Lib.hid hPa'
    have hPt2 : ∀ W, w.grownBy W none → Calls Tryd.prog 9 #[.string s] W fun e w' => W.grownBy w' none ∧ ∃ a c, e = .returned (.tuple #[.slice a (Od.put l).length c, .nilIface]) ∧ Bytes w' (.slice a (Od.put l).length c) (Od.put l) ∧ Whole0 (.slice a (Od.put l).length c) := hPt'
    have HRf : Hid (∀ W, Calls Tryd.prog 8 #[.string s] W fun e w' => ∃ v, e = .returned (.tuple #[v, .int .i64 0]) ∧ FrI W w' v l) := Lib.hid hRf
    have hgt := fun v W hW hB => hGt v (Od.put l) l W hW hB (Nat.le_trans (putLen hr) (by decide)) (Od.get_put hr)
    rw [hts] at hgt
    have HRp := Lib.hid (fun v W (h : Ints W v l) => refOPut_any v l W h hr)
    have HPl : Hid (∀ x ∈ Od.put l, x < 256) := Lib.hid (fun x hx => by
      rw [Od.put] at hx
      rcases List.mem_append.1 hx with h | h
      · exact Od.septUpto_lt _ 6 x h
      · exact rest_lt _ x h)
    have hSm := fun v1 v2 W h1 h2 => sameI_any v1 v2 l l W h1 h2 (by omega) (by omega)
    rw [decide_eq_true rfl] at hSm
    have HSm := Lib.hid hSm
    have hNm := fun W hW => num_of A 0 (by decide) W (HE.out W hW)
    rw [e0] at hNm
    have HNm := Lib.hid hNm
    clear hNm
    obtain ⟨n, hn⟩ : ∃ n, n = l.length := ⟨_, rfl⟩
    have HN := Lib.hid hn
    rw [← hn] at HPa
    obtain ⟨B, hB⟩ : ∃ B, B = Od.put l := ⟨_, rfl⟩
    rw [← hB] at hPt2 hgt HRp HPl
    obtain ⟨m, hm⟩ : ∃ m, m = B.length := ⟨_, rfl⟩
    rw [← hm] at hPt2
    have HPt := Lib.hid hPt2
    have HGt := Lib.hid hgt
    have HM := Lib.hid hm
    clear hp hPa' hPt' hRf hE hPa hPt hGt hPt2 hgt hSm hn hB hm hr h16 hts
    go_enter Tryd.func3, Tryd.ntmps3
    go_wp2_with (first
      | (go_at_call 6; refine HAl.out.mono ?_; rintro e w1 ⟨rfl, hg1⟩; have HG := Lib.hid hg1; clear hg1)
      | (go_at_call 7; refine (HPa.out _ HG.out).mono ?_; rintro e w2 ⟨hg2, a2, c2, rfl, hi2⟩; have HG2 := Lib.hid (grown_trans HG.out hg2); have HI2 := Lib.hid (fun (W : World) (hW : w2.grownBy W none) => hi2.grown hW); clear hg2 hi2)
      | (go_at_call 8; refine (HRf.out _).mono ?_; rintro e w3 ⟨v3, rfl, hF3⟩; have HG23 := Lib.hid hF3.grown; have HG3 := Lib.hid (grown_trans HG2.out hF3.grown); have HI3 := Lib.hid (fun (W : World) (hW : w3.grownBy W none) => hF3.ints.grown hW); obtain ⟨a3, _, c3, rfl, _⟩ := ownsRow_form hF3.own; clear hF3)
      | (go_at_call 9; refine (HPt.out _ HG3.out).mono ?_; rintro e w4 ⟨hg4, a4, c4, rfl, hb4, _⟩; have HG34 := Lib.hid hg4; have HG4 := Lib.hid (grown_trans HG3.out hg4); have HB4 := Lib.hid (fun (W : World) (hW : w4.grownBy W none) => hb4.grown hW); clear hg4 hb4)
      | (go_at_call 10; with_reducible refine (HNm.out _ HG4.out).mono ?_; rintro e w5 ⟨rfl, hg5⟩; have HG45 := Lib.hid hg5; have HG5 := Lib.hid (grown_trans HG4.out hg5); clear hg5)
      | (go_at_call 10; with_reducible refine (HNm.out _ HG5.out).mono ?_; rintro e w6 ⟨rfl, hg6⟩; have HG46 := Lib.hid (grown_trans HG45.out hg6); have HG6 := Lib.hid (grown_trans HG5.out hg6); clear hg6)
      | (go_at_call 11; refine (HSm.out _ _ _ (by rw [HN.out]; rw [HN.out] at HI2; exact HI2.out _ (grown_trans HG23.out (grown_trans HG34.out HG46.out))) (HI3.out _ (grown_trans HG34.out HG46.out))).mono ?_; rintro e w7 ⟨rfl, q, hw7⟩; have HG47 : Hid (w4.grownBy w7 none) := Lib.hid (by rw [hw7]; exact grown_drewN HG46.out q); have HG7 : Hid (w.grownBy w7 none) := Lib.hid (grown_trans HG4.out HG47.out); clear hw7)
      | (go_at_call 12; refine (HGt.out _ _ HG7.out (by rw [HM.out]; rw [HM.out] at HB4; exact HB4.out _ HG47.out)).mono ?_; rintro e w8 ⟨hg8, rfl⟩; have HG48 := Lib.hid (grown_trans HG47.out hg8); have HG8 := Lib.hid (grown_trans HG7.out hg8); clear hg8))
    obtain ⟨S, hS⟩ : ∃ S, S = strOf B := ⟨_, rfl⟩
    refine olp_region _ _ a4 m c4 s S B w8 _ _ rfl rfl rfl rfl rfl rfl (fun W hW => (HRp.out _ W (HI3.out _ (grown_trans HG34.out (grown_trans HG48.out hW)))).mono (fun e w' ⟨u, h1, h2⟩ => ⟨u, h1, h2.grown, Bytes.own h2.own HPl.out⟩)) (fun W hW => by rw [hS]; exact conv_bytes (by have := HB4.out _ (grown_trans HG48.out hW); exact this) _ 5 _ Tryd.underlying30 Tryd.underlying5 Tryd.underlying9) (fun W x hx => by rw [hS]; exact conv_bytes hx _ 5 _ Tryd.underlying30 Tryd.underlying5 Tryd.underlying9) ⟨rfl, rfl, rfl, Nat.le_refl _, fun _ _ _ => rfl⟩ (fun us w9 hg9 => ?_)
    simp only [fill_cons, fill_nil, Act.put, List.setIfInBounds_toArray, List.set_cons_succ, List.set_cons_zero]
    have HG9 := Lib.hid (grown_trans HG8.out hg9)
    clear hg9
    go_wp2
    go_ret
    exact ⟨rfl, HG9.out⟩
end Go.Proofs.YtpjhkmdlegjdaaaDoor
