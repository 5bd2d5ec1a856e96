/- The walk of the law MacSum. -/
import Derived.Test.YtckdkcfhkakcfaaDoorHm10
import Derived.Test.YtckdkcfhkakcfaaDoorKp
import Derived.Test.YtckdkcfhkakcfaaDoorAr1
namespace Go.Proofs.YtckdkcfhkakcfaaDoor
open Go.RowKit

theorem PartsW.at {w : World} {sb so : Nat} {parts : List (List Nat)} (h : PartsW w sb so parts) : PartsAt w sb so parts := fun i hi => by
  obtain ⟨v, h1, h2, _⟩ := h i hi
  exact ⟨v, h1, h2⟩

set_option maxRecDepth 100000 in
set_option maxHeartbeats 1000000 in
theorem macSumLaw_any (vk : Value) (k : List Nat) (parts : List (List Nat)) (a : Option Addr) (sb so n c : Nat) (hn : parts.length = n) (w : World) (hK : Bytes w vk k) (hK0 : Whole0 vk) (ha : 0 < n → a = some ⟨sb, so, none⟩ ∧ sb < w.heap.size) (hP : PartsW w sb so parts)
    (hnn : n ≤ 9223372036854775807) (hL : Laid w) (eT eL : Value) (hE : Errs w eT eL) :
    Calls Tryd.prog 6 #[vk, .slice a n c] w fun e w' => e = .returned (.bool true) ∧ w.grownBy w' none := by
  have HK := Lib.hid hK
  have HK0 := Lib.hid hK0
  obtain ⟨_, ka, kb, ko, kc, rfl, _, _, _⟩ := hK
  have HAl := Lib.hid (alive2_any w eT eL hE)
  have HLo : Hid (∀ W', w.grownBy W' none → Calls Tryd.prog 28 #[.slice ka k.length kc, .slice a n c] W' fun e w' => e = .returned (.bool (longB k.length parts)) ∧ w' = W') := Lib.hid (fun W' hg => long_any ka k.length kc parts a sb so n c hn W' (fun h => ⟨(ha h).1, Nat.lt_of_lt_of_le (ha h).2 hg.size⟩) (hP.grown (fun h => (ha (by omega)).2) hg) hnn)
  have HL := Lib.hid hL
  have HP := Lib.hid hP
  have Ha := Lib.hid ha
  have Hn := Lib.hid hn
  have HE := Lib.hid hE
  clear hL hP ha hn hK0 hE
  cases hlong : longB k.length parts with
  | true =>
    rw [hlong] at HLo
    clear hlong
    generalize k.length = kl at *
    go_enter Tryd.func6, Tryd.ntmps6
    go_wp2_with (first
      | (go_at_call 27; refine HAl.out.mono ?_; rintro e w2 ⟨rfl, hg2⟩)
      | (go_at_call 28; refine (HLo.out w2 hg2).mono ?_; rintro e w3 ⟨rfl, hw3⟩; have hw3' := hw3.symm; subst hw3'))
    go_ret
    exact ⟨rfl, hg2⟩
  | false =>
    rw [hlong] at HLo
    have hlo := of_decide_eq_false hlong
    have hn20 : n ≤ 20 := by
      rcases Nat.lt_or_ge 20 n with h | h
      · exact absurd (.inr (.inl (by rw [Hn.out]; exact h))) hlo
      · exact h
    have hk300 : k.length ≤ 300 := by
      rcases Nat.lt_or_ge 300 k.length with h | h
      · exact absurd (.inl h) hlo
      · exact h
    have h300 : ∀ i, (parts.getD i []).length ≤ 300 := fun i => by
      rcases Nat.lt_or_ge i parts.length with h | h
      · rcases Nat.lt_or_ge 300 (parts.getD i []).length with h2 | h2
        · exact absurd (.inr (.inr ⟨_, getD_mem h, h2⟩)) hlo
        · exact h2
      · rw [List.getD_eq_getElem?_getD, List.getElem?_eq_none h]; simp
    have hflat : ∀ k, ((parts.take k).flatten).length ≤ 300 * k := fun k => by
      induction k with
      | zero => simp
      | succ k ih =>
        rcases Nat.lt_or_ge k parts.length with h | h
        · rw [flatten_take parts k h, List.length_append]; have := h300 k; omega
        · rw [List.take_of_length_le (by omega)]; rw [List.take_of_length_le h] at ih; omega
    have HMlt : Hid (∀ x ∈ parts.flatten, x < 256) := Lib.hid (fun x hx => by
      obtain ⟨p, hp, hxp⟩ := List.mem_flatten.1 hx
      obtain ⟨i, hi, rfl⟩ := mem_getD hp
      obtain ⟨_, _, hBy, _⟩ := HP.out i hi
      exact hBy.lt x hxp)
    have H300 := Lib.hid h300
    have HFl := Lib.hid hflat
    have Hk300 := Lib.hid hk300
    obtain ⟨D, hD⟩ : ∃ D, D = bytesV (Hm.hmac k parts.flatten) := ⟨_, rfl⟩
    have hEQ : ∀ W, (binOp .eql 27 (.agg D) (.agg D)).run Tryd.prog W = .ok (.bool true) W := fun W => by
      rw [hD]
      exact (eql_bytes_same W 27 5 32 (Hm.hmac k parts.flatten) (hmac_len _ _) Tryd.underlying27 Tryd.underlying5 (fun _ => by kernel_rfl) (fun _ => by kernel_rfl)).1
    have HD := Lib.hid hD
    obtain ⟨Y, hY⟩ : ∃ Y, Y = idText k := ⟨_, rfl⟩
    have HY := Lib.hid hY
    obtain ⟨kl, hkl⟩ : ∃ kl, kl = k.length := ⟨_, rfl⟩
    have HKl := Lib.hid hkl
    rw [← hkl] at HK HK0 HLo hk300 ⊢
    clear hlo hlong h300 hflat hD hY hkl
    go_enter Tryd.func6, Tryd.ntmps6
    go_wp2_with (first
      | (go_at_call 27; refine HAl.out.mono ?_; rintro e w2 ⟨rfl, hg2⟩)
      | (go_at_call 28; refine (HLo.out w2 hg2).mono ?_; rintro e w3 ⟨rfl, hw3⟩; have hw3' := hw3.symm; subst hw3'; clear hw3))
    have S0 : Hid (FrW w (w2.alloc (.cells #[] 5)) (.slice (some ⟨w2.heap.size, 0, none⟩) 0 0) []) := Lib.hid ⟨grown_alloc hg2 _, ownsRow_lit (alloc_at w2 _) hg2.size (by simp)⟩
    clear hg2
    go_loopw [5, 17] (fun x i wr => ∃ j : Nat, j ≤ n ∧ i = .int .i64 j ∧ FrW w wr x (parts.take j).flatten) (fun _ i _ => n - (intOf i).toNat)
    case atStart => exact ⟨0, Nat.zero_le _, rfl, S0.out⟩
    case round =>
      obtain ⟨j, hj, rfl, hS⟩ := hrel
      have HS := Lib.hid hS
      clear hS
      by_cases hjn : j < n
      · obtain ⟨rfl, ha2⟩ := Ha.out (by omega)
        obtain ⟨pv, hpc, hBy, hW0⟩ := HP.out j (by rw [Hn.out]; exact hjn)
        have hc1 : wr.cell? ⟨sb, so + j, none⟩ = some pv := by rw [World.cell?_of_block (HS.out.grown.block sb ha2 (by simp))]; exact hpc
        have hq := H300.out j
        have HFT := Lib.hid (flatten_take parts j (by rw [Hn.out]; exact hjn))
        have hfk := HFl.out j
        have HBy := Lib.hid hBy
        have HW0 := Lib.hid hW0
        clear hpc hBy hW0
        generalize parts.getD j [] = q at *
        go_wp2_with (at_builtin; refine wpList_appB (by rfl) (.tmp 21) (.tmp 22) 25 (by rfl) w.heap.size 5 (.int .u8 0) 1 Tryd.underlying25 (by kernel_rfl) rfl (by decide) _ _ _ (by rfl) HS.out.own pv q (by rfl) (HBy.out.grown HS.out.grown) HW0.out (by omega) HS.out.le ?_; intro v3 w3 ho3 hg3; have A3 := Lib.hid (HS.out.step (l' := (parts.take (j + 1)).flatten) ho3 hg3 (by rw [HFT.out, cellsL_append])); clear ho3 hg3)
        go_roundw
        case rel => exact ⟨j + 1, by omega, by go_num, A3.out⟩
        case measure => simp [intOf]; omega
      · obtain rfl : j = n := by omega
        have hfl := HFl.out j
        have htk : (parts.take j).flatten = parts.flatten := by rw [List.take_of_length_le (by rw [Hn.out]; exact Nat.le_refl _)]
        rw [htk] at HS hfl
        have hM : parts.flatten.length ≤ 6000 := by omega
        have HM := Lib.hid hM
        clear htk hfl hM
        have hkl := Hk300.out
        go_wp2_with (first
          | (go_at_call 13; refine (numBytes_any _ k wr (HK.out.grown HS.out.grown) HK0.out (by omega)).mono ?_; rintro e w4 ⟨g4, c4, rfl, r1, r2, r3, r4, r5, r6⟩; rw [← HKl.out] at r1 ⊢; have R := Lib.hid (And.intro r1 (And.intro r2 (And.intro r3 (And.intro r4 (And.intro r5 r6))))); clear r1 r2 r3 r4 r5 r6; have G4 := Lib.hid (grown_trans HS.out.grown R.out.2.2.2.2.1); have g4l : Hid (g4 < w4.heap.size) := Lib.hid (by obtain ⟨_, _, h⟩ := R.out.2.2.2.1; exact blk_lt h); have O4 := Lib.hid (HS.out.own.kept R.out.2.2.2.2.1 (Classical.em _)))
          | (go_at_call 29; refine (macSum_any _ k parts a sb so j c Hn.out w4 (by have := R.out.2.2.2.2.2.bytes (c := c4) HK.out.lt g4l.out (by have := R.out.1; have := HKl.out; omega); rw [← HKl.out] at this; exact this) (by omega) (fun h => ⟨(Ha.out h).1, Nat.lt_of_lt_of_le (Ha.out h).2 G4.out.size⟩) ((HP.out.grown (fun h => (Ha.out (by rw [← Hn.out]; exact h)).2) G4.out).at) (by have := HM.out; omega) (by omega) (HL.out.grown G4.out (by simp) (by simp))).mono ?_; rintro e w5 ⟨rfl, hg5⟩; rw [← HD.out]; have g5 := Lib.hid hg5; have G5 := Lib.hid (grown_trans G4.out hg5); have O5 := Lib.hid (O4.out.kept hg5 (Classical.em _)); clear hg5)
          | (go_at_call 30; refine (refHmac_any _ _ k parts.flatten w5 (HK.out.grown G5.out) HK0.out (by omega) (Bytes.own O5.out HMlt.out) (Whole0.own O5.out) (by have := HM.out; omega)).mono ?_; rintro e w6 ⟨rfl, hg6⟩; rw [← HD.out]; have g6 := Lib.hid (grown_trans g5.out hg6); have G6 := Lib.hid (grown_trans G5.out hg6); clear hg6)
          | (go_at_call 16; refine (kept_any g4 kl c4 _ k w6 HKl.out.symm (by have := R.out.1; omega) (by have := R.out.2.1; unfold maxLen at this; omega) (Nat.lt_of_lt_of_le g4l.out g6.out.size) (R.out.2.2.2.2.2.grown g4l.out g6.out (by simp)) (HK.out.grown G6.out)).mono ?_; rintro e w7 ⟨rfl, m7, hw7⟩; have G7 : Hid (w.grownBy w7 none) := Lib.hid (by rw [hw7]; exact grown_drewN G6.out _); clear hw7)
          | (go_at_call 31; refine (macID_any _ k w7 (HK.out.grown G7.out) (by omega) (HL.out.grown G7.out (by simp) (by simp)) eT eL (HE.out.grown G7.out)).mono ?_; rintro e w8 ⟨rfl, hg8⟩; rw [← HY.out]; have G8 := Lib.hid (grown_trans G7.out hg8); clear hg8)
          | (go_at_call 32; refine (refID_any _ k w8 (HK.out.grown G8.out) HK0.out (by omega)).mono ?_; rintro e w9 ⟨rfl, hg9⟩; rw [← HY.out]; have G9 := Lib.hid (grown_trans G8.out hg9); clear hg9))
        go_ret
        exact ⟨rfl, G9.out⟩
end Go.Proofs.YtckdkcfhkakcfaaDoor
