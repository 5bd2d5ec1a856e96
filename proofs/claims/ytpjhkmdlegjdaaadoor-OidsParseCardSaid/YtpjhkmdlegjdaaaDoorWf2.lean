/- The walks of the document's Serial and Figures. -/
import Derived.Test.YtpjhkmdlegjdaaaDoorWf1
import Derived.Test.YtpjhkmdlegjdaaaDoorWr5
import Derived.Test.YtpjhkmdlegjdaaaDoorWh2
namespace Go.Proofs.YtpjhkmdlegjdaaaDoor
open Go.RowKit

theorem strOf_append (a b : List Nat) : strOf (a ++ b) = strOf a ++ strOf b := by
  apply ByteArray.ext
  simp [strOf, ByteArray.data_append]
theorem digF_len : ∀ (f n : Nat), (Wh.digF f n).length ≤ f + 1
  | 0, n => by simp [Wh.digF]
  | f + 1, n => by
    rw [Wh.digF]
    split
    · simp
    · have := digF_len f (n / 10)
      simp
      omega
theorem dig_len (n : Nat) : (Wh.dig n).length ≤ 21 := digF_len 20 n
theorem conv_i8 (k : Nat) (hk : k < 256) (w : World) : (convert 3 5 (.int .i64 ((k : Nat) : Int))).run Tryd.prog w = .ok (.int .u8 ((k : Nat) : Int)) w := by
  simp [go_sem]
  simp only [IntKind.wrap, IntKind.bits, IntKind.signed]
  simp
  omega
theorem build_u8 (k : Nat) (w : World) : (Instr.buildSlice 30 1 #[(0, .int .u8 ((k : Nat) : Int))]).run Tryd.prog w = .ok (.slice (some ⟨w.heap.size, 0, none⟩) 1 1) (w.alloc (.cells #[.int .u8 ((k : Nat) : Int)] 5)) := by
  simp [go_sem]

set_option maxRecDepth 100000 in
set_option maxHeartbeats 1000000 in
theorem refSerial_any (u : Nat) (hu : u < 9223372036854775808) : ∀ w, 
    Calls Tryd.prog 33 #[.int .i64 (u : Int)] w fun e w' => e = .returned (.string (strOf (Wh.dig u))) ∧ w.grownBy w' none := by
  induction u using Nat.strongRecOn with
  | _ u ih =>
    intro w
    by_cases h10 : u < 10
    · have HX : Hid (strOf (Wh.dig u) = strOf [48 + u]) := Lib.hid (by rw [Wh.dig_small h10])
      have HB : Hid (Bytes (w.alloc (.cells #[.int .u8 ((48 : Int) + (u : Int))] 5)) (.slice (some ⟨w.heap.size, 0, none⟩) 1 1) [48 + u]) := Lib.hid (Bytes.lit (l := [48 + u]) (t := 5) (fr := (0, 0)) (by rw [alloc_at]; simp [cellsL]) (by simp; omega))
      have HG := Lib.hid (World.grownBy_alloc w (.cells #[.int .u8 ((48 : Int) + (u : Int))] 5) none)
      have hc := conv_bytes (P := Tryd.prog) HB.out 30 5 9 Tryd.underlying30 Tryd.underlying5 Tryd.underlying9
      rw [HX.out]
      generalize strOf [48 + u] = t at *
      clear ih hu
      go_enter Tryd.func33, Tryd.ntmps33
      go_wp2
      go_ret
      exact ⟨rfl, HG.out⟩
    · have h := ih (u / 10) (by omega) (by omega)
      have HX : Hid (strOf (Wh.dig u) = strOf (Wh.dig (u / 10)) ++ strOf [48 + u % 10]) := Lib.hid (by rw [Wh.dig_step (by omega) (by omega), strOf_append])
      have hlen : (strOf (Wh.dig (u / 10))).size + (strOf [48 + u % 10]).size ≤ 1000 := by
        rw [strOf_size, strOf_size]
        have := dig_len (u / 10)
        simp
        omega
      have Hlen := Lib.hid hlen
      have hS2 : ∀ w x, Bytes w x [48 + u % 10] → (convert 30 9 x).run Tryd.prog w = .ok (.string (strOf [48 + u % 10])) w := fun w x hx => conv_bytes hx _ 5 _ Tryd.underlying30 Tryd.underlying5 Tryd.underlying9
      have HS2 := Lib.hid hS2
      have HI := Lib.hid h
      rw [HX.out]
      generalize strOf (Wh.dig (u / 10)) = T1 at *
      generalize strOf [48 + u % 10] = T2 at *
      clear ih hlen hS2 h
      go_enter Tryd.func33, Tryd.ntmps33
      go_wp2
      refine rs_region _ u T1 T2 w _ _ rfl rfl (fun W _ => (HI.out W).mono (fun e w' ⟨h1, h2⟩ => ⟨_, h1, h2, rfl⟩)) (conv_i8 _ (by omega)) (build_u8 _) (by omega) HS2.out ?_ ?_ ?_ Hlen.out ⟨rfl, rfl, rfl, Nat.le_refl _, fun _ _ _ => rfl⟩ (fun us w4 hg4 => ?_)
      · simp only [IntKind.wrap, IntKind.bits, IntKind.signed]
        rw [Int.tdiv_eq_ediv_of_nonneg (by omega)]
        simp
        omega
      · rw [Int.tmod_eq_emod_of_nonneg (by omega)]
        omega
      · simp only [IntKind.wrap, IntKind.bits, IntKind.signed]
        simp
        omega
      simp only [fill_cons, fill_nil, Act.put, List.setIfInBounds_toArray, List.set_cons_succ, List.set_cons_zero]
      have HG4 := Lib.hid hg4
      clear hg4
      go_wp2
      go_ret
      exact ⟨rfl, HG4.out⟩

theorem pval_take (l : List Nat) (k : Nat) (h : k < l.length) : Wh.pval (l.take (k + 1)) = Wh.pval (l.take k) * 10 + (l.getD k 0 - 48) := by
  have e : l.getD k 0 = l[k] := by rw [List.getD_eq_getElem?_getD, List.getElem?_eq_getElem h]; rfl
  rw [List.take_add_one, List.getElem?_eq_getElem h, Option.toList_some, Wh.pval_snoc, e]
theorem fig_take (l : List Nat) (k : Nat) (h : k < l.length) : (l.take (k + 1)).all Wh.fig = ((l.take k).all Wh.fig && Wh.fig (l.getD k 0)) := by
  have e : l.getD k 0 = l[k] := by rw [List.getD_eq_getElem?_getD, List.getElem?_eq_getElem h]; rfl
  rw [List.take_add_one, List.getElem?_eq_getElem h, Option.toList_some, List.all_append, e]
  simp
theorem figs_pre {l : List Nat} {k : Nat} (h : (l.take k).all Wh.fig = false) : Wh.figs l = false := by
  cases hf : Wh.figs l
  · rfl
  · have h3 := (figs_parts hf).2.2.1
    rw [← Bool.not_eq_true] at h
    refine absurd ?_ h
    rw [List.all_eq_true] at h3 ⊢
    exact fun x hx => h3 x (List.mem_of_mem_take hx)

/-- What the document's Figures answers. -/
def figOut (L : List Nat) : Int × Bool := if Wh.figs L = true then ((Wh.pval L : Nat), true) else (0, false)

set_option maxRecDepth 100000 in
set_option maxHeartbeats 1000000 in
theorem refFigures_any (s : ByteArray) (w : World) :
    Calls Tryd.prog 26 #[.string s] w fun e w' => e = .returned (.tuple #[.int .i64 (figOut (strL s)).1, .bool (figOut (strL s)).2]) ∧ w.grownBy w' none := by
  obtain ⟨L, hL⟩ : ∃ L, L = strL s := ⟨_, rfl⟩
  obtain ⟨n, hn⟩ : ∃ n, n = s.size := ⟨_, rfl⟩
  have hLn : L.length = n := by rw [hL, strL_len, hn]
  have HIx : Hid (∀ j : Nat, j < n → ∀ W, (Instr.index 9 (.string s) (.int .i64 (j : Int))).run Tryd.prog W = .ok (.int .u8 (L.getD j 0 : Nat)) W) := Lib.hid (fun j hj W => by
    have hjs : j < s.size := by omega
    have h2 : (0 : Int) ≤ (j : Int) ∧ (j : Int) < (s.size : Int) := ⟨by omega, by omega⟩
    have e := strL_getD s j hjs
    rw [← hL] at e
    rw [run_index_string W _ s .i64 j Tryd.underlying9, dif_pos h2, ← e]
    rfl)
  have HBad : Hid (Wh.figs L = false → figOut L = (0, false)) := Lib.hid (fun h => by rw [figOut, if_neg (by rw [h]; simp)])
  rw [← hL]
  have hsz : ((s.size : Nat) : Int) = n := by rw [hn]
  by_cases hlen : 1 ≤ n ∧ n ≤ 18
  · obtain ⟨hl1, hl2⟩ := hlen
    have HSt : Hid (∀ k, k < n → Wh.pval (L.take (k + 1)) = Wh.pval (L.take k) * 10 + (L.getD k 0 - 48) ∧ (L.take (k + 1)).all Wh.fig = ((L.take k).all Wh.fig && Wh.fig (L.getD k 0)) ∧ L.getD k 0 < 256) := Lib.hid (fun k hk =>
      ⟨pval_take L k (by omega), fig_take L k (by omega), getD_small (by rw [hL]; exact strL_lt s) k⟩)
    have HPv : Hid (∀ k, k ≤ n → (L.take k).all Wh.fig = true → Wh.pval (L.take k) < 1000000000000000000) := Lib.hid (fun k hk h => by
      have h1 := Wh.pval_lt _ h
      rw [List.length_take, Nat.min_eq_left (by omega)] at h1
      exact Nat.lt_of_lt_of_le h1 (Nat.le_trans (Nat.pow_le_pow_right (by decide) (show k ≤ 18 by omega)) (by decide)))
    have HPw : Hid (∀ k, k < n → (L.take k).all Wh.fig = true → Wh.pval (L.take k) < 100000000000000000) := Lib.hid (fun k hk h => by
      have h1 := Wh.pval_lt _ h
      rw [List.length_take, Nat.min_eq_left (by omega)] at h1
      exact Nat.lt_of_lt_of_le h1 (Nat.le_trans (Nat.pow_le_pow_right (by decide) (show k ≤ 17 by omega)) (by decide)))
    have HT : Hid (L.take n = L) := Lib.hid (List.take_of_length_le (by omega))
    have HLs : Hid (L = strL s) := Lib.hid hL
    have HLn := Lib.hid hLn
    have HN := Lib.hid hn
    have HPr : Hid (∀ k, (L.take k).all Wh.fig = false → Wh.figs L = false) := Lib.hid (fun k h => figs_pre h)
    have HRS := Lib.hid (fun u hu W => refSerial_any u hu W)
    clear hLn hL hn
    go_enter Tryd.func26, Tryd.ntmps26
    go_wp2
    go_loopw [4, 5] (fun v i wr => ∃ k : Nat, k ≤ n ∧ v = .int .i64 (Wh.pval (L.take k) : Nat) ∧ i = .int .i64 k ∧ (L.take k).all Wh.fig = true ∧ wr = w) (fun _ i _ => n - (intOf i).toNat)
    case atStart => exact ⟨0, by omega, rfl, rfl, rfl, rfl⟩
    case round =>
      obtain ⟨k, hk, rfl, rfl, hfg, rfl⟩ := hrel
      have hpv := HPv.out k hk hfg
      have HFg := Lib.hid hfg
      clear hfg
      by_cases hkn : k < n
      · have hix := HIx.out k hkn
        have hpw := HPw.out k hkn HFg.out
        clear hpv
        obtain ⟨s1, s2, s3⟩ := HSt.out k hkn
        rw [HFg.out, Bool.true_and] at s2
        have S1 := Lib.hid s1
        have S2 := Lib.hid s2
        clear s1 s2
        have HPk := HPr.out (k + 1)
        rw [S2.out] at HPk
        have HPk2 := Lib.hid HPk
        clear HPk
        generalize L.getD k 0 = c at *
        generalize Wh.pval (L.take k) = q at *
        by_cases hc : c < 48
        · have hff : Wh.fig c = false := by simp [Wh.fig]; omega
          have HO := Lib.hid (HBad.out (HPk2.out hff))
          go_wp2
          go_ret2
          rw [HO.out]
          exact ⟨rfl, grown_refl _ _⟩
        · by_cases hc2 : 57 < c
          · have hff : Wh.fig c = false := by simp [Wh.fig]; omega
            have HO := Lib.hid (HBad.out (HPk2.out hff))
            go_wp2
            go_ret2
            rw [HO.out]
            exact ⟨rfl, grown_refl _ _⟩
          · have hff : Wh.fig c = true := by simp [Wh.fig]; omega
            have HFf := Lib.hid hff
            clear hff
            go_wp2
            go_roundw
            case rel => exact ⟨k + 1, by omega, by rw [S1.out]; go_num, by go_num, by rw [S2.out]; exact HFf.out, trivial⟩
            case measure => simp [intOf]; omega
      · obtain rfl : k = n := by omega
        rw [HT.out] at hpv HFg ⊢
        obtain ⟨q, hq⟩ : ∃ q, q = Wh.pval L := ⟨_, rfl⟩
        have HQ := Lib.hid hq
        rw [← hq] at hpv ⊢
        have hsb : ((strOf (Wh.dig q)).toList == s.toList) = decide (Wh.dig q = L) := by
          rw [str_beq, strL_strOf, HLs.out]
          intro x hx
          have := List.all_eq_true.1 (Wh.dig_fig q (by omega)) x hx
          simp [Wh.fig] at this
          omega
        have HRq := Lib.hid (HRS.out q (by omega))
        generalize strOf (Wh.dig q) = t at *
        clear hq
        by_cases he : Wh.dig q = L
        · have hfi : Wh.figs L = true := (Wh.figs_iff L).2 ⟨⟨by rw [HLn.out]; exact hl1, by rw [HLn.out]; exact hl2⟩, HFg.out, by rw [← HQ.out]; exact he⟩
          have HO : Hid (figOut L = ((q : Int), true)) := Lib.hid (by rw [figOut, if_pos hfi, HQ.out])
          rw [decide_eq_true he] at hsb
          have hne : (t.toList != s.toList) = false := by rw [bne, hsb]; rfl
          clear he hfi
          go_wp2_with (go_at_call 33; refine (HRq.out _).mono ?_; rintro e w1 ⟨rfl, hg1⟩; have HG1 := Lib.hid hg1; clear hg1)
          go_ret2
          rw [HO.out]
          exact ⟨rfl, HG1.out⟩
        · have hfi : Wh.figs L = false := by
            cases hf : Wh.figs L
            · rfl
            · exact absurd (by rw [HQ.out]; exact (figs_parts hf).2.2.2) he
          have HO := Lib.hid (HBad.out hfi)
          rw [decide_eq_false he] at hsb
          have hne : (t.toList != s.toList) = true := by rw [bne, hsb]; rfl
          clear he hfi
          go_wp2_with (go_at_call 33; refine (HRq.out _).mono ?_; rintro e w1 ⟨rfl, hg1⟩; have HG1 := Lib.hid hg1; clear hg1)
          go_ret2
          rw [HO.out]
          exact ⟨rfl, HG1.out⟩
  · have hfi : Wh.figs L = false := by
      cases hf : Wh.figs L
      · rfl
      · have := figs_parts hf
        omega
    have HO := Lib.hid (HBad.out hfi)
    clear hfi hLn hL hn
    by_cases h0 : n < 1
    · go_enter Tryd.func26, Tryd.ntmps26
      go_wp2
      go_ret2
      rw [HO.out]
      exact ⟨rfl, grown_refl _ _⟩
    · have h18 : 18 < n := by omega
      clear hlen
      go_enter Tryd.func26, Tryd.ntmps26
      go_wp2
      go_ret2
      rw [HO.out]
      exact ⟨rfl, grown_refl _ _⟩
end Go.Proofs.YtpjhkmdlegjdaaaDoor
