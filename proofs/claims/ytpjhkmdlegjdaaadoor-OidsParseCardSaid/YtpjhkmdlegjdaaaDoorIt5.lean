/- The walks of package oids' numberOfFigures, isIdentifier, Parse. -/
import Derived.Test.YtpjhkmdlegjdaaaDoorIt4
import Derived.Test.YtpjhkmdlegjdaaaDoorSi
import Derived.Test.YtpjhkmdlegjdaaaDoorWf1
import Derived.Test.YtpjhkmdlegjdaaaDoorOl0
namespace Go.Proofs.YtpjhkmdlegjdaaaDoor
open Go.RowKit

set_option maxRecDepth 100000 in
theorem numFig_any (A : Nat → Addr) (s : ByteArray) (tp : TypeId) (p : Value) (w : World) (hF : Figs w tp p) (hE : RFErrs w A) :
    Calls Tryd.prog 39 #[.string s] w fun e w' => e = .returned (.tuple (encN A (Od.numOf (strL s)))) ∧ w.grownBy w' none := by
  by_cases hl : 10 < s.size
  · have hx : encN A (Od.numOf (strL s)) = #[.int .i64 0, errV A 4] := by
      rw [Od.numOf, Od.part, if_neg (by rw [strL_len]; omega)]
      rfl
    rw [hx]
    have eF := hE.form
    clear hF hE hx
    go_enter Tryd.func39, Tryd.ntmps39
    go_wp2
    go_quiet (fail)
    go_wp2
    go_ret2
    exact ⟨rfl, grown_drewN (grown_refl _ _) _⟩
  · have hx : encN A (Od.numOf (strL s)) = #[.int .i64 (figRes (strL s)).1, errOf A (figRes (strL s)).2] := by
      rw [Od.numOf, Od.part, figRes]
      by_cases hf : Wh.figs (strL s) = true
      · rw [if_pos ⟨hf, by rw [strL_len]; omega⟩, if_pos hf]
        rfl
      · rw [if_neg (fun h => hf h.1), if_neg hf]
        rfl
    rw [hx]
    have HW := Lib.hid (figures_any A s tp p w hF hE)
    generalize errOf A (figRes (strL s)).2 = E at *
    generalize (figRes (strL s)).1 = n at *
    clear hF hE hx
    go_enter Tryd.func39, Tryd.ntmps39
    go_wp2_with (go_at_call 51; refine HW.out.mono ?_; rintro e w1 ⟨rfl, hg1⟩; have HG1 := Lib.hid hg1; clear hg1)
    go_ret2
    exact ⟨rfl, HG1.out⟩

theorem right_in {l : List Int} {x y : Int} (h2 : 2 ≤ l.length) (h16 : l.length ≤ 16) (hx : l.getD 0 0 = x) (hy : l.getD 1 0 = y) (hall : ∀ j, j < l.length → 0 ≤ l.getD j 0 ∧ l.getD j 0 ≤ 2147483647) :
    Od.right l = ((decide (x < 2) && decide (y < 40)) || decide (x = 2)) := by
  have h0 := (hall 0 (by omega)).1
  rw [hx] at h0
  rw [Bool.eq_iff_iff, Od.right_iff, hx, hy]
  simp only [Bool.or_eq_true, Bool.and_eq_true, decide_eq_true_eq]
  constructor
  · rintro ⟨⟨_, _, _, h3, h4⟩, _⟩; omega
  · intro h
    refine ⟨⟨h2, h16, h0, by omega, by omega⟩, fun n hn => ?_⟩
    obtain ⟨j, hj, rfl⟩ := List.getElem_of_mem hn
    have := hall j hj
    rw [List.getD_eq_getElem?_getD, List.getElem?_eq_getElem hj] at this
    exact this
theorem right_out {l : List Int} (j : Nat) (hj : j < l.length) (h : ¬ (0 ≤ l.getD j 0 ∧ l.getD j 0 ≤ 2147483647)) : Od.right l = false := by
  rw [← Bool.not_eq_true]; intro e
  refine h (((Od.right_iff l).1 e).2 _ ?_)
  rw [List.getD_eq_getElem?_getD, List.getElem?_eq_getElem hj]
  exact List.getElem_mem hj
theorem right_len {l : List Int} (h : l.length < 2 ∨ 16 < l.length) : Od.right l = false := by
  rw [← Bool.not_eq_true]; intro e
  have := ((Od.right_iff l).1 e).1
  omega

set_option maxRecDepth 100000 in
set_option maxHeartbeats 1000000 in
theorem isId_any (v : Value) (l : List Int) (w : World) (hI : Ints w v l) (hl : l.length ≤ 1099511620000) :
    Calls Tryd.prog 24 #[v] w fun e w' => e = .returned (.bool (Od.right l)) ∧ w' = w := by
  obtain ⟨a1, g1, o1, c1, rfl, k1, k2, k3⟩ := hI
  by_cases hlen : l.length < 2 ∨ 16 < l.length
  · rw [right_len hlen]
    clear k2 k3
    generalize l.length = n at *
    rcases hlen with h | h
    · go_enter Tryd.func24, Tryd.ntmps24
      go_wp2
      go_ret
      exact ⟨rfl, rfl⟩
    · have h' : ¬ n < 2 := by omega
      go_enter Tryd.func24, Tryd.ntmps24
      go_wp2
      go_ret
      exact ⟨rfl, rfl⟩
  · have h2 : ¬ l.length < 2 := fun h => hlen (.inl h)
    have h16 : ¬ 16 < l.length := fun h => hlen (.inr h)
    clear hlen hl
    obtain ⟨rfl, hlt⟩ := k2 (by omega)
    have K3 := Lib.hid k3
    have HO := Lib.hid (fun j (hj : j < l.length) h => right_out (l := l) j hj h)
    have HR := Lib.hid (right_in (x := l.getD 0 0) (y := l.getD 1 0) (l := l) (by omega) (by omega) rfl rfl)
    obtain ⟨n, hn⟩ : ∃ n, n = l.length := ⟨_, rfl⟩
    rw [← hn] at K3 HO HR h2 h16 ⊢
    clear k1 k2 k3 hn hlt
    generalize Od.right l = R at *
    go_enter Tryd.func24, Tryd.ntmps24
    go_wp2
    go_loopw [15] (fun i wr => ∃ k : Nat, k ≤ n ∧ i = .int .i64 k ∧ wr = w ∧ ∀ j, j < k → 0 ≤ l.getD j 0 ∧ l.getD j 0 ≤ 2147483647) (fun i _ => n - (intOf i).toNat)
    case atStart => exact ⟨0, Nat.zero_le _, rfl, rfl, fun j hj => absurd hj (Nat.not_lt_zero _)⟩
    case round =>
      obtain ⟨k, hk, rfl, rfl, hall⟩ := hrel
      have HAll := Lib.hid hall
      clear hall
      by_cases hlt : k < n
      · have f1 := K3.out k hlt
        by_cases hx : 0 ≤ l.getD k 0 ∧ l.getD k 0 ≤ 2147483647
        · have HX := Lib.hid hx
          obtain ⟨x1, x2⟩ := hx
          generalize hxx : l.getD k 0 = x at *
          have HXX := Lib.hid hxx
          have y1 : ¬ x < 0 := by omega
          have y2 : ¬ 2147483647 < x := by omega
          clear hxx
          go_wp2
          go_roundw
          case rel => exact ⟨k + 1, by omega, by go_num, trivial, fun j hj => (by
            rcases Nat.lt_or_ge j k with h | h
            · exact HAll.out j h
            · obtain rfl : j = k := by omega
              rw [HXX.out]; exact HX.out)⟩
          case measure => simp [intOf]; omega
        · have hR := HO.out k hlt hx
          have hR2 := Lib.hid hR
          have hxo : l.getD k 0 < 0 ∨ (¬ l.getD k 0 < 0 ∧ 2147483647 < l.getD k 0) := by omega
          generalize l.getD k 0 = x at *
          clear hx hR
          rcases hxo with h | ⟨h, h'⟩
          · go_wp2
            go_ret
            exact ⟨by rw [hR2.out]; rfl, rfl⟩
          · go_wp2
            go_ret
            exact ⟨by rw [hR2.out]; rfl, rfl⟩
      · obtain rfl : k = n := by omega
        have hR := HR.out HAll.out
        have f0 := K3.out 0 (by omega)
        have f1 := K3.out 1 (by omega)
        rw [Nat.add_zero] at f0
        generalize l.getD 0 0 = x at *
        generalize l.getD 1 0 = y at *
        have hR2 := Lib.hid hR
        clear hR
        by_cases hx : x < 2
        · by_cases hy : y < 40
          · go_wp2
            go_ret
            exact ⟨by rw [hR2.out]; simp [hx, hy], rfl⟩
          · have hx2 : x ≠ 2 := by omega
            have hb : (x == 2) = false := by simp [hx2]
            go_wp2
            go_ret
            exact ⟨by rw [hR2.out]; simp [hx, hy, hx2], rfl⟩
        · by_cases hx2 : x = 2
          · subst hx2
            go_wp2
            go_ret
            exact ⟨by rw [hR2.out]; simp, rfl⟩
          · have hb : (x == 2) = false := by simp [hx2]
            go_wp2
            go_ret
            exact ⟨by rw [hR2.out]; simp [hx2]; omega, rfl⟩

theorem enters38 (args : Array Value) (w : World) : (callFunc 37 args).run Tryd.prog w = .ok (.enter 37 args) w := by
  simp [go_sem]
theorem gat_form (s : List Nat) : Od.parse s = match Od.gat ((Od.split s).map Od.numOf) with | .error k => .error k | .ok a => if Od.right (a.take 17) = true then .ok (a.take 17) else .error 1 := Od.parse_gat s

set_option maxRecDepth 100000 in
set_option maxHeartbeats 1000000 in
theorem parse_any (A : Nat → Addr) (s : ByteArray) (hs : s.size ≤ 100000) (tp : TypeId) (p : Value) (w : World) (hF : Figs w tp p) (hE : RFErrs w A) :
    Calls Tryd.prog 7 #[.string s] w fun e w' => w.grownBy w' none ∧ match Od.parse (strL s) with
      | .ok l => ∃ a c, e = .returned (.tuple #[.slice a l.length c, .nilIface]) ∧ Ints w' (.slice a l.length c) l ∧ Whole0 (.slice a l.length c)
      | .error k => e = .returned (.tuple #[.slice none 0 0, errV A k]) := by
  have HO := Lib.hid (ofText_any s w)
  have HG := Lib.hid (gather_any A 37 #[.pointer (some ⟨w.heap.size, 0, none⟩)] 6 _ (w.alloc (.cells #[.string s] 9)) enters38
    (ofTextClo_seq A s (by omega) w.heap.size (w.alloc (.cells #[.string s] 9)) (Boxed.new w _ _)
      (fun q W hW => numFig_any A q tp p W ((hF.grown (World.grownBy_alloc w _ none)).grown hW) ((hE.grown (World.grownBy_alloc w _ none)).grown hW)) index_any))
  have HER := Lib.hid (fun W (hW : w.grownBy W none) => (hE.grown (w' := W) hW).range)
  have HA := Lib.hid (World.grownBy_alloc w (.cells #[.string s] 9) none)
  rw [gat_form]
  cases hg : Od.gat ((Od.split (strL s)).map Od.numOf) with
  | error q =>
    have HG2 : Hid (Calls Tryd.prog 22 #[.func (.func 37) #[] #[.pointer (some ⟨w.heap.size, 0, none⟩)]] (w.alloc (.cells #[.string s] 9)) fun e w' => e = .returned (.tuple #[.slice none 0 0, errV A q]) ∧ w.grownBy w' none) := Lib.hid (HG.out.mono (by
      rintro e w' ⟨h1, h2⟩
      rw [hg] at h2
      exact ⟨h2, grown_trans HA.out h1⟩))
    clear HG hF hE hg
    go_enter Tryd.func7, Tryd.ntmps7
    go_wp2_with (first
      | (go_at_call 23; refine HO.out.mono ?_; rintro e w1 ⟨rfl, rfl⟩)
      | (go_at_call 22; refine HG2.out.mono ?_; rintro e w2 ⟨rfl, hg2⟩; have HG3 := Lib.hid hg2; clear hg2))
    go_ret2
    exact ⟨HG3.out, rfl⟩
  | ok a =>
    have ha : (a.take 17).length ≤ 17 := by rw [List.length_take]; omega
    obtain ⟨T, hT⟩ : ∃ T, T = a.take 17 := ⟨_, rfl⟩
    simp only []
    rw [← hT] at ha ⊢
    have HG2 : Hid (Calls Tryd.prog 22 #[.func (.func 37) #[] #[.pointer (some ⟨w.heap.size, 0, none⟩)]] (w.alloc (.cells #[.string s] 9)) fun e w' => ∃ v, e = .returned (.tuple #[v, .nilIface]) ∧ w.grownBy w' none ∧ Ints w' v T ∧ Whole0 v) := Lib.hid (HG.out.mono (by
      rintro e w' ⟨h1, h2⟩
      rw [hg] at h2
      obtain ⟨v, h3, h4, h5⟩ := h2
      exact ⟨v, h3, grown_trans HA.out h1, by rw [hT]; exact h4, h5⟩))
    have HI := Lib.hid (fun v W (hv : Ints W v T) => isId_any v T W hv (by omega))
    clear HG hF hE hg hT
    by_cases hr : Od.right T = true
    · rw [if_pos hr]
      rw [hr] at HI
      go_enter Tryd.func7, Tryd.ntmps7
      go_wp2_with (first
        | (go_at_call 23; refine HO.out.mono ?_; rintro e w1 ⟨rfl, rfl⟩)
        | (go_at_call 22; refine HG2.out.mono ?_; rintro e w2 ⟨v, rfl, hg2, hi2, hw2⟩; have HG3 := Lib.hid hg2; have HI3 := Lib.hid hi2; have HW3 := Lib.hid hw2; clear hg2 hi2 hw2)
        | (go_at_call 24; refine (HI.out _ _ HI3.out).mono ?_; rintro e w3 ⟨rfl, rfl⟩))
      go_ret2
      obtain ⟨va, _, _, vc, hv, _⟩ := HI3.out
      subst hv
      exact ⟨HG3.out, _, _, rfl, HI3.out, HW3.out⟩
    · rw [if_neg hr]
      rw [Bool.not_eq_true] at hr
      rw [hr] at HI
      go_enter Tryd.func7, Tryd.ntmps7
      go_wp2_with (first
        | (go_at_call 23; refine HO.out.mono ?_; rintro e w1 ⟨rfl, rfl⟩)
        | (go_at_call 22; refine HG2.out.mono ?_; rintro e w2 ⟨v, rfl, hg2, hi2, hw2⟩; have HG3 := Lib.hid hg2; have HI3 := Lib.hid hi2; have eR := HER.out w2 hg2; clear hg2 hi2 hw2)
        | (go_at_call 24; refine (HI.out _ _ HI3.out).mono ?_; rintro e w3 ⟨rfl, rfl⟩))
      go_quiet (fail)
      go_wp2
      go_ret2
      exact ⟨grown_drewN HG3.out _, rfl⟩

theorem pa_spec (A : Nat → Addr) (tp : TypeId) (p : Value) (w : World) (hF : Figs w tp p) (hE : RFErrs w A) : PaSpec A w := fun s W hs hW =>
  (parse_any A s hs tp p W (hF.grown hW) (hE.grown hW)).mono (by
    rintro e w' ⟨h1, h2⟩
    refine ⟨h1, ?_⟩
    cases hp : Od.parse (strL s) with
    | error k => rw [hp] at h2; exact ⟨none, 0, h2, Ints.nil _⟩
    | ok l =>
      rw [hp] at h2
      obtain ⟨a, c, h3, h4, _⟩ := h2
      exact ⟨a, c, h3, h4⟩)
end Go.Proofs.YtpjhkmdlegjdaaaDoor
