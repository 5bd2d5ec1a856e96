/- The walk of the law MacFrames. -/
import Derived.Test.YtndgbhgalablfaaDoorHm12
import Derived.Test.YtndgbhgalablfaaDoorHm13
import Derived.Test.YtndgbhgalablfaaDoorMn5
import Derived.Test.YtndgbhgalablfaaDoorMs6
import Derived.Test.YtndgbhgalablfaaDoorQTail
namespace Go.Proofs.YtndgbhgalablfaaDoor
open Go.RowKit

theorem hmacLen (k t : List Nat) : (Hm.hmac k t).length = 32 := Sha.sum_len _
theorem fErr_three (W : List Nat) (parts : List (List Nat)) : fErr W parts = 0 ∨ fErr W parts = 8 ∨ fErr W parts = 3 := by
  unfold fErr
  split
  · exact .inr (.inl rfl)
  · split
    · exact .inr (.inr rfl)
    · split
      · exact .inr (.inr rfl)
      · exact .inl rfl

set_option maxRecDepth 100000 in
set_option maxHeartbeats 2000000 in
theorem macFrames_any (A : Nat → Addr) (vk : Value) (k : List Nat) (s : ByteArray) (parts : List (List Nat)) (a : Option Addr) (sb so n c : Nat) (hn : parts.length = n) (w : World) (hK : Bytes w vk k) (hK0 : Whole0 vk) (ha : 0 < n → a = some ⟨sb, so, none⟩ ∧ sb < w.heap.size) (hP : PartsW w sb so parts)
    (hs : s.size ≤ 9223372036854775807) (hnn : n ≤ 9223372036854775807) (hL : Laid w) (hE : AllErrs w A) :
    Calls Tryd.prog 3 #[vk, .string s, .slice a n c] w fun e w' => e = .returned (.bool true) ∧ w.grownBy w' none := by
  have HK := Lib.hid hK
  have HK0 := Lib.hid hK0
  obtain ⟨_, ka, kb, ko, kc, rfl, _, _, _⟩ := hK
  have HAl := Lib.hid (alive2_any w _ _ (errs_of_all hE))
  have HLo : Hid (∀ W', w.grownBy W' none → Calls Tryd.prog 9 #[.slice ka k.length kc, .slice a n c] W' fun e w' => e = .returned (.bool (longB k.length parts)) ∧ w' = W') := Lib.hid (fun W' hg => long_any ka k.length kc parts a sb so n c hn W' (fun h => ⟨(ha h).1, Nat.lt_of_lt_of_le (ha h).2 hg.size⟩) (hP.grown (fun h => (ha (by omega)).2) hg) hnn)
  have HL := Lib.hid hL
  have HP := Lib.hid hP
  have Ha := Lib.hid ha
  have Hn := Lib.hid hn
  have HE := Lib.hid hE
  obtain ⟨m, hm⟩ : ∃ m, m = s.size := ⟨_, rfl⟩
  have hsm : ((s.size : Nat) : Int) = (m : Int) := by rw [hm]
  have HmS := Lib.hid hm
  clear hL hP ha hn hK0 hE hm
  cases hlong : longB k.length parts with
  | true =>
    rw [hlong] at HLo
    clear hlong
    generalize k.length = kl at *
    go_enter Tryd.func3, Tryd.ntmps3
    go_wp2_with (first
      | (go_at_call 8; refine HAl.out.mono ?_; rintro e w2 ⟨rfl, hg2⟩)
      | (go_at_call 9; refine (HLo.out w2 hg2).mono ?_; rintro e w3 ⟨rfl, hw3⟩; have hw3' := hw3.symm; subst hw3'))
    go_ret
    exact ⟨rfl, hg2⟩
  | false =>
    rw [hlong] at HLo
    have hlo := of_decide_eq_false hlong
    have hn20 : n ≤ 20 := by
      rcases Nat.lt_or_ge 20 n with h | h
      · exact absurd (.inr (.inl (by rw [Hn.out]; exact h))) hlo
      · exact h
    have hk300 : k.length ≤ 300 := by
      rcases Nat.lt_or_ge 300 k.length with h | h
      · exact absurd (.inl h) hlo
      · exact h
    by_cases hm100 : 100 < m
    · have d1 : decide ((100 : Int) < (m : Int)) = true := decide_eq_true (by omega)
      clear hlong hlo hn20 hk300
      generalize k.length = kl at *
      go_enter Tryd.func3, Tryd.ntmps3
      go_wp2_with (first
        | (go_at_call 8; refine HAl.out.mono ?_; rintro e w2 ⟨rfl, hg2⟩)
        | (go_at_call 9; refine (HLo.out w2 hg2).mono ?_; rintro e w3 ⟨rfl, hw3⟩; have hw3' := hw3.symm; subst hw3'))
      go_ret
      exact ⟨rfl, hg2⟩
    · have d1 : decide ((100 : Int) < (m : Int)) = false := decide_eq_false (by omega)
      have HFr := Lib.hid (fun W (hW : w.grownBy W none) => frame_any s parts a sb so n c Hn.out W (fun h => ⟨(Ha.out h).1, Nat.lt_of_lt_of_le (Ha.out h).2 hW.size⟩) (HP.out.grown (fun h => (Ha.out (by rw [← Hn.out]; exact h)).2) hW) (by have := HmS.out; omega) (by omega) _ _ (errs_of_all (HE.out.grown hW)))
      have HRf := Lib.hid (fun W (hW : w.grownBy W none) => refFrame_any s parts a sb so n c Hn.out W (fun h => ⟨(Ha.out h).1, Nat.lt_of_lt_of_le (Ha.out h).2 hW.size⟩) (HP.out.grown (fun h => (Ha.out (by rw [← Hn.out]; exact h)).2) hW) (by have := HmS.out; omega) (by omega))
      have Hk300 := Lib.hid hk300
      have hlongF := Lib.hid hlong
      have hm100F := Lib.hid hm100
      clear hlong hlo hm100
      have hI32 : (Tryd.prog.info? 32).map (·.size) = some 32 := by kernel_rfl
      by_cases h0 : fErr (strL s) parts = 0
      · obtain ⟨F, hF⟩ : ∃ F, F = frameOf (strL s) parts := ⟨_, rfl⟩
        have hPlt : ∀ p ∈ parts, ∀ x ∈ p, x < 256 := fun p hp => by
          obtain ⟨i, hi, rfl⟩ := mem_getD hp
          obtain ⟨_, _, hBy, _⟩ := HP.out i hi
          exact hBy.lt
        have hFlt : ∀ x ∈ F, x < 256 := by rw [hF]; exact frame_lt _ _ h0 (strL_lt s) hPlt
        have h300 : ∀ p ∈ parts, p.length ≤ 65536 := fun p hp => by
          rcases Nat.lt_or_ge 300 p.length with h | h
          · exact absurd (show 300 < k.length ∨ 20 < parts.length ∨ ∃ p ∈ parts, 300 < p.length from .inr (.inr ⟨p, hp, h⟩)) (of_decide_eq_false hlongF.out)
          · omega
        have hFl : F.length ≤ 2000000 := by
          have hb := fbody_len parts h300
          have : 65540 * parts.length ≤ 65540 * 20 := Nat.mul_le_mul_left _ (by rw [Hn.out]; exact hn20)
          rw [hF, frameOf, List.length_append, fhead]
          simp only [List.length_cons, List.length_append, strL_len, List.length_nil]
          have := HmS.out
          have := hm100F.out
          omega
        have HFr0 : Hid (∀ W, w.grownBy W none → Calls Tryd.prog 10 #[.string s, .slice a n c] W fun e w' => ∃ v, e = .returned (.tuple #[v, .nilIface]) ∧ FrW W w' v F) := Lib.hid (fun W hW => (HFr.out W hW).mono (by
          rintro e w' ⟨hg, v, u, rfl, h⟩
          rw [h0] at h
          rcases h with ⟨_, rfl, h⟩ | ⟨h, _⟩ | ⟨h, _⟩
          · rw [← hF] at h; exact ⟨v, rfl, h⟩
          · cases h
          · cases h))
        have HRf0 : Hid (∀ W, w.grownBy W none → Calls Tryd.prog 11 #[.string s, .slice a n c] W fun e w' => ∃ v, e = .returned (.tuple #[v, .int .i64 0]) ∧ FrW W w' v F) := Lib.hid (fun W hW => (HRf.out W hW).mono (by
          rintro e w' ⟨⟨v, rfl, h1, _⟩, hg⟩
          have h1' := h1 h0
          rw [h0]
          rw [← hF] at h1'
          exact ⟨v, rfl, h1'⟩))
        obtain ⟨D, hD⟩ : ∃ D, D = bytesV (Hm.hmac k F) := ⟨_, rfl⟩
        have hDs : D.size = 32 := by rw [hD, bytesV_size, hmacLen]
        have HTg : Hid (∀ W, w.grownBy W none → Calls Tryd.prog 12 #[.slice ka k.length kc, .string s, .slice a n c] W fun e w' => e = .returned (.tuple #[.agg D, .nilIface]) ∧ W.grownBy w' none) := Lib.hid (fun W hW => by
          rw [hD]
          exact tagged_ok _ k s _ F W (HK.out.grown hW) (by omega) (by omega) hFlt (HL.out.grown hW (by simp) (by simp)) (fun W' hW' => HFr0.out W' (grown_trans hW hW')))
        have HRs : Hid (∀ W u, w.grownBy W none → Bytes W u F → Whole0 u → Calls Tryd.prog 14 #[.slice ka k.length kc, u] W fun e w' => e = .returned (.agg D) ∧ W.grownBy w' none) := Lib.hid (fun W u hW hb hu => by
          rw [hD]
          exact refHmac_any _ u k F W (HK.out.grown hW) HK0.out (by omega) hb hu (by omega))
        have HNu := Lib.hid (fun W => num_nil W)
        have CV : Hid (∀ u W, Bytes W u F → (convert 22 9 u).run Tryd.prog W = .ok (.string (strOf F)) W) := Lib.hid (fun u W hb => conv_bytes hb _ 5 _ Tryd.underlying22 Tryd.underlying5 Tryd.underlying9)
        have hEQ : ∀ W, (Op.equalIn 10000 32 (.agg D) (.agg D)).run Tryd.prog W = .ok true W := fun W => by
          rw [hD]
          exact run_eqArr_same W 9998 32 5 32 _ Tryd.underlying32 Tryd.underlying5 (fun _ => by kernel_rfl) (fun _ => by kernel_rfl) (fun i hi => ⟨_, bytesV_at _ i (by rw [hmacLen]; exact hi)⟩)
        have HEQ := Lib.hid hEQ
        have hz32 := zeros32_at w
        have HI : Hid ((Tryd.prog.info? 32).map (·.size) = some D.size) := Lib.hid (by rw [hDs]; exact hI32)
        have HO : Hid (D.all (·.oneCell') = true) := Lib.hid (by rw [hD]; exact bytesV_one _)
        have HZD : Hid (zeros32.size = D.size) := Lib.hid (by rw [hDs]; rfl)
        have HFlt := Lib.hid hFlt
        clear hF hPlt hFlt h300 hFl hD hDs h0 hn20 hk300 hEQ hI32
        generalize k.length = kl at *
        go_enter Tryd.func3, Tryd.ntmps3
        go_wp2_with (first
        | (go_at_call 8; refine HAl.out.mono ?_; rintro e w2 ⟨rfl, hg2⟩; have G2 := Lib.hid hg2; clear hg2)
        | (go_at_call 9; refine (HLo.out w2 G2.out).mono ?_; rintro e w3 ⟨rfl, hw3⟩; have hw3' := hw3.symm; subst hw3'; clear hw3)
        | (go_at_call 10; refine (HFr0.out _ G2.out).mono ?_; rintro e w3 ⟨v3, rfl, hF3⟩; have G3 := Lib.hid (grown_trans G2.out hF3.grown); have B3 := Lib.hid (Bytes.own hF3.own HFlt.out); clear hF3)
        | (go_at_call 11; refine (HRf0.out _ G3.out).mono ?_; rintro e w4 ⟨v4, rfl, hF4⟩; have G4 := Lib.hid (grown_trans G3.out hF4.grown); have B34 := Lib.hid (B3.out.grown hF4.grown); have B4 := Lib.hid (Bytes.own hF4.own HFlt.out); have W4 := Lib.hid (Whole0.own hF4.own); clear hF4)
        | (go_at_call 12; refine (HTg.out _ G4.out).mono ?_; rintro e w5 ⟨rfl, hg5⟩; have g5 := Lib.hid hg5; have G5 := Lib.hid (grown_trans G4.out hg5); have Z5 := Lib.hid (alloc_at w5 (.cells zeros32 32)); clear hg5)
        | (refine wpList_store_row (by rfl) 32 (.tmp 11) (.tmp 40) (by rfl) w5.heap.size D (by rfl) (by rfl) _ _ Z5.out HI.out HZD.out HO.out ?_; obtain ⟨W6, hW6⟩ : ∃ W6, W6 = (w5.alloc (.cells zeros32 32)).setRow w5.heap.size D := ⟨_, rfl⟩; rw [← hW6]; have g6 : Hid (w5.grownBy W6 none) := Lib.hid (by rw [hW6]; exact grown_setRow (World.grownBy_alloc _ _ _) (Nat.le_refl _) _); have G6 := Lib.hid (grown_trans G5.out g6.out); have B6 : Hid (W6.heap[w5.heap.size]? = some (.cells D 32 (0, 0))) := Lib.hid (by rw [hW6]; exact setRow_heap _ _ _ _ _ _ Z5.out); have cv1 := CV.out v3 W6 (B34.out.grown (grown_trans g5.out g6.out)); have cv2 := CV.out v4 W6 (B4.out.grown (grown_trans g5.out g6.out)); have B46 := Lib.hid (B4.out.grown (grown_trans g5.out g6.out)); clear hW6)
        | (go_at_call 13; refine (HNu.out _).mono ?_; rintro e w7 ⟨rfl, hw7⟩; have hw7' := hw7.symm; subst hw7'; clear hw7))
        refine wp_region_quiet_tail (fun w' => W6.grownBy w' none) 5 (by kernel_rfl) (by kernel_rfl) ⟨rfl, rfl, rfl, Nat.le_refl _, fun _ _ _ => rfl⟩ ?_
        simp only [List.take_succ_cons, List.take_zero, List.drop_succ_cons, List.drop_zero]
        refine wpQuiet_load_mid (by rfl) 32 (.tmp 11) (by rfl) w5.heap.size 0 (by rfl) D.toList _ (fun w' hw' => range_grown hw' (range_all B6.out) (blk_lt B6.out) (by simp)) Tryd.underlying32 (by rfl) (by rw [Array.length_toList]; exact HI.out) ?_
        refine wpQuiet_same (by rfl) (.slice ka kl kc) (fun _ _ => by simp [go_sem, Act.put]) ?_
        refine wpQuiet_same (by rfl) v4 (fun _ _ => by simp [go_sem, Act.put]) ?_
        refine wpQuiet_call (by rfl) 14 #[.slice ka kl kc, v4] (.agg D) (fun _ => by simp [go_sem, Act.put]) (fun w' hw' => (HRs.out w' v4 (grown_trans G6.out hw') (B46.out.grown hw') W4.out).mono fun e w'' ⟨h1, h2⟩ => ⟨h1, grown_trans hw' h2⟩) ?_
        refine wpQuiet_same (by rfl) (.bool true) (fun w' _ => by simp [go_sem, Act.put, HEQ.out]) ?_
        refine wpQuiet_nil ?_
        intro W7 hW7
        simp only [Act.put, List.setIfInBounds_toArray, List.set_cons_succ, List.set_cons_zero, Array.toArray_toList]
        go_wp2
        go_ret
        exact ⟨rfl, grown_trans G6.out hW7⟩
      · obtain ⟨ek, hek⟩ : ∃ ek, ek = fErr (strL s) parts := ⟨_, rfl⟩
        have hek2 : ek = 8 ∨ ek = 3 := by
          rcases fErr_three (strL s) parts with h | h | h
          · exact absurd h h0
          · exact .inl (by rw [hek, h])
          · exact .inr (by rw [hek, h])
        rw [← hek] at h0
        have HFrE : Hid (∀ W, w.grownBy W none → Calls Tryd.prog 10 #[.string s, .slice a n c] W fun e w' => e = .returned (.tuple #[.slice none 0 0, errV A ek]) ∧ W.grownBy w' none) := Lib.hid (fun W hW => (HFr.out W hW).mono (by
          rintro e w' ⟨hg, v, u, rfl, h⟩
          rw [← hek] at h
          rcases h with ⟨h, _⟩ | ⟨h, rfl, rfl⟩ | ⟨h, rfl, rfl⟩
          · exact absurd h h0
          · rw [h]; exact ⟨rfl, hg⟩
          · rw [h]; exact ⟨rfl, hg⟩))
        have HRfE : Hid (∀ W, w.grownBy W none → Calls Tryd.prog 11 #[.string s, .slice a n c] W fun e w' => e = .returned (.tuple #[.slice none 0 0, .int .i64 (ek : Nat)]) ∧ W.grownBy w' none) := Lib.hid (fun W hW => (HRf.out W hW).mono (by
          rintro e w' ⟨⟨v, rfl, _, h2⟩, hg⟩
          rw [← hek] at h2 ⊢
          rw [h2 h0]
          exact ⟨rfl, hg⟩))
        have HTg : Hid (∀ W, w.grownBy W none → Calls Tryd.prog 12 #[.slice ka k.length kc, .string s, .slice a n c] W fun e w' => e = .returned (.tuple #[.agg zeros32, errV A ek]) ∧ W.grownBy w' none) := Lib.hid (fun W hW => tagged_err _ s _ _ _ W (fun W' hW' => HFrE.out W' (grown_trans hW hW')))
        have HNu := Lib.hid (fun W (hW : w.grownBy W none) => num_at A ek (by rcases hek2 with rfl | rfl <;> decide) W (HE.out.grown hW))
        have CV : Hid (∀ W, (convert 22 9 (.slice none 0 0)).run Tryd.prog W = .ok (.string (strOf [])) W) := Lib.hid (fun W => run_convert_bytes_nil W 22 5 Tryd.underlying22 Tryd.underlying5 0 0 9 Tryd.underlying9)
        have hEQ : ∀ W, (Op.equalIn 10000 32 (.agg zeros32) (.agg zeros32)).run Tryd.prog W = .ok true W := fun W =>
          run_eqArr_same W 9998 32 5 32 zeros32 Tryd.underlying32 Tryd.underlying5 (fun _ => by kernel_rfl) (fun _ => by kernel_rfl) (fun i hi => ⟨_, bytesV_at (List.replicate 32 0) i (by simpa using hi)⟩)
        have HEQ := Lib.hid hEQ
        have hz32 := zeros32_at w
        have HI : Hid ((Tryd.prog.info? 32).map (·.size) = some zeros32.size) := Lib.hid (by kernel_rfl)
        have HO : Hid (zeros32.all (·.oneCell') = true) := Lib.hid (bytesV_one _)
        have hek0 : ((ek : Int) != 0) = true := by rcases hek2 with rfl | rfl <;> rfl
        have HCv := CV.out
        clear hek hek2 h0 hn20 hk300 hEQ
        generalize k.length = kl at *
        go_enter Tryd.func3, Tryd.ntmps3
        go_wp2_with (first
        | (go_at_call 8; refine HAl.out.mono ?_; rintro e w2 ⟨rfl, hg2⟩; have G2 := Lib.hid hg2; clear hg2)
        | (go_at_call 9; refine (HLo.out w2 G2.out).mono ?_; rintro e w3 ⟨rfl, hw3⟩; have hw3' := hw3.symm; subst hw3'; clear hw3)
        | (go_at_call 10; refine (HFrE.out _ G2.out).mono ?_; rintro e w3 ⟨rfl, hg3⟩; have G3 := Lib.hid (grown_trans G2.out hg3); clear hg3)
        | (go_at_call 11; refine (HRfE.out _ G3.out).mono ?_; rintro e w4 ⟨rfl, hg4⟩; have G4 := Lib.hid (grown_trans G3.out hg4); clear hg4)
        | (go_at_call 12; refine (HTg.out _ G4.out).mono ?_; rintro e w5 ⟨rfl, hg5⟩; have G5 := Lib.hid (grown_trans G4.out hg5); have Z5 := Lib.hid (alloc_at w5 (.cells zeros32 32)); clear hg5)
        | (refine wpList_store_row (by rfl) 32 (.tmp 11) (.tmp 40) (by rfl) w5.heap.size zeros32 (by rfl) (by rfl) _ _ Z5.out HI.out rfl HO.out ?_; obtain ⟨W6, hW6⟩ : ∃ W6, W6 = (w5.alloc (.cells zeros32 32)).setRow w5.heap.size zeros32 := ⟨_, rfl⟩; rw [← hW6]; have G6 : Hid (w.grownBy W6 none) := Lib.hid (by rw [hW6]; exact grown_trans G5.out (grown_setRow (World.grownBy_alloc _ _ _) (Nat.le_refl _) _)); have B6 : Hid (W6.heap[w5.heap.size]? = some (.cells zeros32 32 (0, 0))) := Lib.hid (by rw [hW6]; exact setRow_heap _ _ _ _ _ _ Z5.out); clear hW6)
        | (go_at_call 13; first | (with_reducible refine (HNu.out W6 G6.out).mono ?_; rintro e w7 ⟨rfl, hg7⟩; have G7 := Lib.hid (grown_trans G6.out hg7); have B7 := Lib.hid ((hg7.block _ (blk_lt B6.out) (by simp)).trans B6.out); clear hg7) | (refine (HNu.out w7 G7.out).mono ?_; rintro e w8 ⟨rfl, hg8⟩; have G8 := Lib.hid (grown_trans G7.out hg8); have B8 := Lib.hid ((hg8.block _ (blk_lt B7.out) (by simp)).trans B7.out); clear hg8))
        | (refine wpList_load_row (by rfl) 32 (.tmp 11) (by rfl) w5.heap.size (by rfl) _ zeros32 (0, 0) _ B8.out Tryd.underlying32 (by rfl) HI.out ?_; have hEq8 := HEQ.out w8))
        go_ret
        exact ⟨rfl, G8.out⟩
end Go.Proofs.YtndgbhgalablfaaDoor
