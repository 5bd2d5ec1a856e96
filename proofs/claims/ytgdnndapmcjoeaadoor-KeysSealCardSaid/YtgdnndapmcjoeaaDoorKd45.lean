import Derived.Test.YtgdnndapmcjoeaaDoorKd44
namespace Go.Proofs.YtgdnndapmcjoeaaDoor
open Go.RowKit Go.Maps
set_option linter.unusedVariables false
set_option maxRecDepth 100000 in
set_option maxHeartbeats 4000000 in
theorem kseal_Ksc (A : Nat → Addr) (v dom oth : ByteArray) (w : World) (hE : AllErrs w A) (hL : Laid w) (hi1 : ¬ (200 : Int) < (v.size : Int)) (hi2 : ¬ (100 : Int) < (dom.size : Int)) (hi3 : ¬ (100 : Int) < (oth.size : Int)) (hve : v ≠ mt) (hf : fErr (strL dom) [strL v] = 0) (ho : oth ≠ dom) :
    Calls Tryd.prog 6 #[.string v, .string dom, .string oth] w fun e w' => e = .returned (.bool true) ∧ w.grownBy w' none := by
  have HAl := Lib.hid (alive10_any A w hE hL)
  have HE : Hid (∀ W, w.grownBy W none → AllErrs W A) := Lib.hid (fun W hW => hE.grown hW)
  have HL : Hid (∀ W, w.grownBy W none → Laid W) := Lib.hid (fun W hW => hL.grown hW (by simp) (by simp))
  obtain ⟨ID, hID⟩ : ∃ ID, ID = idText noughts := ⟨_, rfl⟩
  have HID := Lib.hid hID
  have HN : Hid (∀ k W, k ≤ 28 → w.grownBy W none → Calls Tryd.prog 11 #[errOf A k] W fun e w' => e = .returned (.int .i64 k) ∧ W.grownBy w' none) := Lib.hid (fun k W hk hW => num_of A k hk W (hE.grown hW))
  have HAd : Hid (∀ w1 F W, w.grownBy w1 none → PrG w1 F w1.heap.size Rg.none W → Calls Tryd.prog 18 #[.pointer (some ⟨w1.heap.size, 0, none⟩), .slice (some ⟨W.heap.size, 0, none⟩) 32 32] (W.alloc (.cells (bytesV noughts) 5)) fun e w' => e = .returned (.tuple #[.string ID, .nilIface]) ∧ ∃ F', PrG w1 F' w1.heap.size s1 w') := Lib.hid (fun w1 F W hW h => by rw [hID]; exact alAdd h (hE.grown hW) (hL.grown hW (by simp) (by simp)))
  have HMA : Hid (∀ w1 F w3, PrG w1 F w1.heap.size s1 w3 → Calls Tryd.prog 23 #[.pointer (some ⟨w3.heap.size, 0, none⟩), .slice (some ⟨w3.heap.size + 1, 0, none⟩) 32 32] ((w3.alloc (.cells #[.slice none 0 0, .slice none 0 0] 43)).alloc (.cells (bytesV noughts) 5)) fun e w' => e = .returned (.string ID) ∧ ∃ kv, S0 w1 w1.heap.size w3.heap.size kv (.slice none 0 0) s1 w') := Lib.hid (fun w1 F w3 h => by rw [hID]; exact sAdd h)
  have hmk := made32
  clear hE hL hID
  have HV := Lib.hid (show v.size ≤ 1000 by omega)
  have HD := Lib.hid (show dom.size ≤ 1000 by omega)
  have HO := Lib.hid (show oth.size ≤ 1000 by omega)
  have hbe2 : v.toList ≠ [] := fun h => hve (kStr (by
    have := str_beq v mt
    have h2 : mt.toList = [] := by decide +kernel
    rw [h, h2] at this
    exact of_decide_eq_true this.symm))
  have hbe3 : v.toList.isEmpty = false := by cases h : v.toList with | nil => exact absurd h hbe2 | cons _ _ => rfl
  have HVe := Lib.hid hve
  clear hve
  have HF := Lib.hid hf
  obtain ⟨K, hK⟩ : ∃ K, K = SK dom v := ⟨_, rfl⟩
  obtain ⟨Y, hY⟩ : ∃ Y, Y = strOf K := ⟨_, rfl⟩
  have hKl : K.length = 32 := by rw [hK]; exact hmac_len _ _
  have hK8 : ∀ x ∈ K, x < 256 := by rw [hK]; exact hmac_lt _ _
  have HCS : Hid (∀ W u, Bytes W u K → (convert 22 9 u).run Tryd.prog W = .ok (.string Y) W) := Lib.hid (fun W u h => by rw [hY]; exact conv_bytes h _ 5 _ Tryd.underlying22 Tryd.underlying5 Tryd.underlying9)
  have HBy : Hid (∀ (W : World) g, W.heap[g]? = some (.cells (bytesV K) 64 (0, 0)) → Bytes W (.slice (some ⟨g, 0, none⟩) 32 32) K) := Lib.hid (fun W g h => by
    have := row_bytes hK8 h
    rw [hKl] at this; exact this)
  have HSl : Hid (∀ w1 b m kv W, w.grownBy w1 none → S0 w1 b m kv (.slice none 0 0) s1 W → Calls Tryd.prog 24 #[.pointer (some ⟨b, 0, none⟩), .string ID, .agg #[.string dom, .string v], .func (.func 25) #[] #[]] W fun e w' => ∃ g, e = .returned (.tuple #[.slice (some ⟨g, 0, none⟩) 32 32, .nilIface]) ∧ S0 w1 b m kv (.slice none 0 0) (s1.sign (idText noughts, dom, v)) w' ∧ w'.heap[g]? = some (.cells (bytesV K) 64 (0, 0))) := Lib.hid (fun w1 b m kv W hW h => by rw [HID.out, hK]; exact sSeal_ok h (HE.out w1 hW) (HL.out w1 hW) HVe.out HV.out HD.out HF.out)
  have HSg : Hid (∀ w1 b m kv s W q c, S0 w1 b m kv (.slice none 0 0) s W → Bytes W (.slice (some ⟨q, 0, none⟩) v.size c) (strL v) → Calls Tryd.prog 26 #[.pointer (some ⟨m, 0, none⟩), .string ID, .string dom, .slice (some ⟨q, 0, none⟩) v.size c] W fun e w' => ∃ a c bv, e = .returned (.tuple #[.slice a 32 c, .int .i64 0]) ∧ Bytes w' (.slice a 32 c) K ∧ W.grownBy w' (some m) ∧ S0 w1 b m kv bv s w' ∧ LinesV w' bv [(idText noughts, dom, v)]) := Lib.hid (fun w1 b m kv s W q c h hB => by rw [HID.out, hK]; exact sSign_ok h HD.out _ _ _ hB (Whole0.some _ _ _) HF.out)
  have HOp : Hid (∀ w1 b m kv bv W g, w.grownBy w1 none → S0 w1 b m kv bv (s1.sign (idText noughts, dom, v)) W → Bytes W (.slice (some ⟨g, 0, none⟩) 32 32) K → Calls Tryd.prog 27 #[.pointer (some ⟨b, 0, none⟩), .string ID, .agg #[.string dom, .string v], .slice (some ⟨g, 0, none⟩) 32 32, .func (.func 25) #[] #[]] W fun e w' => e = .returned .nilIface ∧ W.grownBy w' none) := Lib.hid (fun w1 b m kv bv W g hW h hB => by
    have := sOpen h (HE.out w1 hW) (HL.out w1 hW) HVe.out HV.out HD.out (some ⟨g, 0, none⟩) 32 K (by omega) (by rw [hKl]; exact hB)
    have e0 : verE (s1.sign (idText noughts, dom, v)) (idText noughts) dom (strL v) K = 0 := by
      have hg : (s1.sign (idText noughts, dom, v)).get (idText noughts) = some noughts := s1_get
      unfold verE
      rw [if_neg (fun h => h (by rw [s1_recE _ hg]; exact HF.out)), if_pos ⟨by rw [s1_recS _ hg, hK], by rw [strOf_strL]; exact mem_sign.2 (.inr rfl)⟩]
    rw [e0, errOf, if_pos rfl, hKl] at this
    rw [HID.out]; exact this)
  have HVr : Hid (∀ w1 b m kv bv s W q c sv, S0 w1 b m kv bv s W → LinesV W bv [(idText noughts, dom, v)] → Bytes W (.slice (some ⟨q, 0, none⟩) v.size c) (strL v) → Bytes W sv K → Calls Tryd.prog 28 #[.pointer (some ⟨m, 0, none⟩), .string ID, .string dom, .slice (some ⟨q, 0, none⟩) v.size c, sv] W fun e w' => e = .returned (.int .i64 0) ∧ W.grownBy w' none) := Lib.hid (fun w1 b m kv bv s W q c sv h hl hB hS => by rw [HID.out]; exact sVer_ok h HD.out _ _ _ hB (Whole0.some _ _ _) sv hl (by rw [← hK]; exact hS) HF.out)
  have HN0 : Hid (∀ W, w.grownBy W none → Calls Tryd.prog 11 #[.nilIface] W fun e w' => e = .returned (.int .i64 0) ∧ W.grownBy w' none) := Lib.hid (fun W hW => by
    have := HN.out 0 W (by decide) hW
    rw [errOf, if_pos rfl] at this
    exact this)
  have hyb : (Y.toList == Y.toList) = true := beq_self_eq_true _
  have hob : (oth.toList == dom.toList) = false := by rw [← kBeq]; exact decide_eq_false ho
  have HO2 : Hid (∀ w1 b m kv bv W g, w.grownBy w1 none → S0 w1 b m kv bv (s1.sign (idText noughts, dom, v)) W → Bytes W (.slice (some ⟨g, 0, none⟩) 32 32) K → Calls Tryd.prog 27 #[.pointer (some ⟨b, 0, none⟩), .string ID, .agg #[.string oth, .string v], .slice (some ⟨g, 0, none⟩) 32 32, .func (.func 25) #[] #[]] W fun e w' => (∃ p, e = .returned (.iface 153 (.pointer (some p)))) ∧ W.grownBy w' none) := Lib.hid (fun w1 b m kv bv W g hW h hB => by
    have := sOpen h (HE.out w1 hW) (HL.out w1 hW) HVe.out HV.out HO.out (some ⟨g, 0, none⟩) 32 K (by omega) (by rw [hKl]; exact hB)
    have e0 : verE (s1.sign (idText noughts, dom, v)) (idText noughts) oth (strL v) K ≠ 0 := verE_ne (fun hm => by
      rcases mem_sign.1 hm with hm | hm
      · exact absurd hm (by show ¬ _ ∈ ([] : List (ByteArray × ByteArray × ByteArray)); simp)
      · simp only [Prod.mk.injEq] at hm; exact ho hm.2.1)
    rw [errOf, if_neg e0, hKl] at this
    rw [HID.out]; exact this.mono (fun e w' h => ⟨⟨_, h.1⟩, h.2⟩))
  have HOb := Lib.hid ho
  clear hK hY hKl hK8 hf ho
  go_enter Tryd.func6, Tryd.ntmps6
  go_wp2_with (first
  | (go_at_call 7; refine HAl.out.mono ?_; rintro e w1 ⟨rfl, hg1⟩; have G1 := Lib.hid hg1; clear hg1)
  | (go_at_call 14; refine (gnew_any w1).mono ?_; rintro e w2 ⟨rfl, hw2⟩; have P2 : Hid (PrG w1 (fun k => k = w1.heap.size) w1.heap.size Rg.none w2) := Lib.hid (by rw [hw2]; exact PrG.new (grown_refl _ _)); clear hw2)
  | (go_at_call 18; refine (HAd.out w1 _ w2 G1.out P2.out).mono ?_; rintro e w3 ⟨rfl, F3, hp3⟩; have P3 := Lib.hid hp3; clear hp3)
  | (go_at_call 23; refine (HMA.out w1 _ w3 P3.out).mono ?_; rintro e w5 ⟨rfl, kv, hs5⟩; have T5 := Lib.hid hs5; clear hs5)
  | (go_at_call 27; (with_reducible refine (HO2.out _ _ _ _ _ w13 _ G1.out T13.out (HBy.out _ _ D13.out)).mono ?_); rintro e w14 ⟨⟨p14, rfl⟩, hg14⟩; have G14 := Lib.hid (grown_trans (grown_trans G1.out T13.out.base) hg14); clear hg14)
  | (go_at_call 24; refine (HSl.out _ _ _ _ w5 G1.out T5.out).mono ?_; rintro e w6 ⟨g, rfl, hs6, hg6⟩; have T6 := Lib.hid hs6; have D6 := Lib.hid hg6; clear hs6 hg6)
  | (refine wpList_strBy (by rfl) 9 22 (.tmp 66) (by rfl) Tryd.underlying9 Tryd.underlying22 Tryd.underlying5 v (by rfl) ?_; intro c7 w7 hg7 hB7; have T7 := Lib.hid (T6.out.still hg7); have D7 := Lib.hid ((hg7.block _ (blk_lt D6.out) (by simp)).trans D6.out); have B7 := Lib.hid hB7; clear hg7 hB7)
  | (go_at_call 26; refine (HSg.out _ _ _ _ _ w7 _ _ T7.out B7.out).mono ?_; rintro e w8 ⟨a8, c8, bv8, rfl, hB8, hg8, hs8, hl8⟩; have D8 := Lib.hid ((hg8.block _ (blk_lt D7.out) (fun e => T7.out.notM D7.out (Option.some.inj e))).trans D7.out); have T8 := Lib.hid hs8; have L8 := Lib.hid hl8; have cv1 := HCS.out w8 _ (HBy.out _ _ D8.out); have cv2 := HCS.out w8 _ hB8; clear hB8 hg8 hs8 hl8)
  | (go_at_call 11; (with_reducible refine (HN0.out w8 (grown_trans G1.out T8.out.base)).mono ?_); rintro e w9 ⟨rfl, hg9⟩; have T9 := Lib.hid (T8.out.still hg9); have D9 := Lib.hid ((hg9.block _ (blk_lt D8.out) (by simp)).trans D8.out); have L9 := Lib.hid (L8.out.grown hg9); clear hg9)
  | (go_at_call 27; (with_reducible refine (HOp.out _ _ _ _ _ w9 _ G1.out T9.out (HBy.out _ _ D9.out)).mono ?_); rintro e w10 ⟨rfl, hg10⟩; have T10 := Lib.hid (T9.out.still hg10); have D10 := Lib.hid ((hg10.block _ (blk_lt D9.out) (by simp)).trans D9.out); have L10 := Lib.hid (L9.out.grown hg10); clear hg10)
  | (go_at_call 11; (with_reducible refine (HN0.out w10 (grown_trans G1.out T10.out.base)).mono ?_); rintro e w11 ⟨rfl, hg11⟩; have T11 := Lib.hid (T10.out.still hg11); have D11 := Lib.hid ((hg11.block _ (blk_lt D10.out) (by simp)).trans D10.out); have L11 := Lib.hid (L10.out.grown hg11); clear hg11)
  | (refine wpList_strBy (by rfl) 9 22 (.tmp 93) (by rfl) Tryd.underlying9 Tryd.underlying22 Tryd.underlying5 v (by rfl) ?_; intro c12 w12 hg12 hB12; have T12 := Lib.hid (T11.out.still hg12); have D12 := Lib.hid ((hg12.block _ (blk_lt D11.out) (by simp)).trans D11.out); have L12 := Lib.hid (L11.out.grown hg12); have B12 := Lib.hid hB12; clear hg12 hB12)
  | (go_at_call 28; refine (HVr.out _ _ _ _ _ _ w12 _ _ _ T12.out L12.out B12.out (HBy.out _ _ D12.out)).mono ?_; rintro e w13 ⟨rfl, hg13⟩; have T13 := Lib.hid (T12.out.still hg13); have D13 := Lib.hid ((hg13.block _ (blk_lt D12.out) (by simp)).trans D12.out); clear hg13))
  go_ret
  exact ⟨rfl, G14.out⟩
end Go.Proofs.YtgdnndapmcjoeaaDoor
namespace Go.Proofs.YtgdnndapmcjoeaaDoor
open Go.RowKit Go.Maps
set_option linter.unusedVariables false
set_option maxRecDepth 100000 in
set_option maxHeartbeats 4000000 in
theorem kseal_Ksd (A : Nat → Addr) (v dom : ByteArray) (w : World) (hE : AllErrs w A) (hL : Laid w) (hi1 : ¬ (200 : Int) < (v.size : Int)) (hi2 : ¬ (100 : Int) < (dom.size : Int)) (hi3 : ¬ (100 : Int) < (dom.size : Int)) (hve : v ≠ mt) (hf : fErr (strL dom) [strL v] ≠ 0) :
    Calls Tryd.prog 6 #[.string v, .string dom, .string dom] w fun e w' => e = .returned (.bool true) ∧ w.grownBy w' none := by
  have HAl := Lib.hid (alive10_any A w hE hL)
  have HE : Hid (∀ W, w.grownBy W none → AllErrs W A) := Lib.hid (fun W hW => hE.grown hW)
  have HL : Hid (∀ W, w.grownBy W none → Laid W) := Lib.hid (fun W hW => hL.grown hW (by simp) (by simp))
  obtain ⟨ID, hID⟩ : ∃ ID, ID = idText noughts := ⟨_, rfl⟩
  have HID := Lib.hid hID
  have HN : Hid (∀ k W, k ≤ 28 → w.grownBy W none → Calls Tryd.prog 11 #[errOf A k] W fun e w' => e = .returned (.int .i64 k) ∧ W.grownBy w' none) := Lib.hid (fun k W hk hW => num_of A k hk W (hE.grown hW))
  have HAd : Hid (∀ w1 F W, w.grownBy w1 none → PrG w1 F w1.heap.size Rg.none W → Calls Tryd.prog 18 #[.pointer (some ⟨w1.heap.size, 0, none⟩), .slice (some ⟨W.heap.size, 0, none⟩) 32 32] (W.alloc (.cells (bytesV noughts) 5)) fun e w' => e = .returned (.tuple #[.string ID, .nilIface]) ∧ ∃ F', PrG w1 F' w1.heap.size s1 w') := Lib.hid (fun w1 F W hW h => by rw [hID]; exact alAdd h (hE.grown hW) (hL.grown hW (by simp) (by simp)))
  have HMA : Hid (∀ w1 F w3, PrG w1 F w1.heap.size s1 w3 → Calls Tryd.prog 23 #[.pointer (some ⟨w3.heap.size, 0, none⟩), .slice (some ⟨w3.heap.size + 1, 0, none⟩) 32 32] ((w3.alloc (.cells #[.slice none 0 0, .slice none 0 0] 43)).alloc (.cells (bytesV noughts) 5)) fun e w' => e = .returned (.string ID) ∧ ∃ kv, S0 w1 w1.heap.size w3.heap.size kv (.slice none 0 0) s1 w') := Lib.hid (fun w1 F w3 h => by rw [hID]; exact sAdd h)
  have hmk := made32
  clear hE hL hID
  have HV := Lib.hid (show v.size ≤ 1000 by omega)
  have HD := Lib.hid (show dom.size ≤ 1000 by omega)
  have HO := Lib.hid (show dom.size ≤ 1000 by omega)
  have hbe2 : v.toList ≠ [] := fun h => hve (kStr (by
    have := str_beq v mt
    have h2 : mt.toList = [] := by decide +kernel
    rw [h, h2] at this
    exact of_decide_eq_true this.symm))
  have hbe3 : v.toList.isEmpty = false := by cases h : v.toList with | nil => exact absurd h hbe2 | cons _ _ => rfl
  have HVe := Lib.hid hve
  clear hve
  have HF := Lib.hid hf
  have hN28 : fErr (strL dom) [strL v] ≤ 28 := by rcases fErr_cases (strL dom) [strL v] with h | h | h <;> omega
  obtain ⟨N, hN⟩ : ∃ N, N = fErr (strL dom) [strL v] := ⟨_, rfl⟩
  have hN0 : N ≠ 0 := by rw [hN]; exact hf
  obtain ⟨p, hp⟩ : ∃ p, p = A (N - 1) := ⟨_, rfl⟩
  have hee : errOf A N = .iface 153 (.pointer (some p)) := by rw [errOf, if_neg hN0, hp]
  obtain ⟨Y, hY⟩ : ∃ Y, Y = strOf [] := ⟨_, rfl⟩
  have HCS : Hid (∀ W, (convert 22 9 (.slice none 0 0)).run Tryd.prog W = .ok (.string Y) W) := Lib.hid (fun W => by rw [hY]; exact conv_bytes (bytes_no W) _ 5 _ Tryd.underlying22 Tryd.underlying5 Tryd.underlying9)
  have HSl : Hid (∀ w1 b m kv W, w.grownBy w1 none → S0 w1 b m kv (.slice none 0 0) s1 W → Calls Tryd.prog 24 #[.pointer (some ⟨b, 0, none⟩), .string ID, .agg #[.string dom, .string v], .func (.func 25) #[] #[]] W fun e w' => e = .returned (.tuple #[.slice none 0 0, .iface 153 (.pointer (some p))]) ∧ W.grownBy w' none) := Lib.hid (fun w1 b m kv W hW h => by rw [HID.out, hp, hN]; exact sSeal_err h (HE.out w1 hW) (HL.out w1 hW) HVe.out HV.out HD.out HF.out)
  have HSg : Hid (∀ w1 b m kv s W q c, S0 w1 b m kv (.slice none 0 0) s W → Bytes W (.slice (some ⟨q, 0, none⟩) v.size c) (strL v) → Calls Tryd.prog 26 #[.pointer (some ⟨m, 0, none⟩), .string ID, .string dom, .slice (some ⟨q, 0, none⟩) v.size c] W fun e w' => e = .returned (.tuple #[.slice none 0 0, .int .i64 (N : Int)]) ∧ W.grownBy w' none) := Lib.hid (fun w1 b m kv s W q c h hB => by rw [HID.out, hN]; exact sSign_err h HD.out _ _ _ hB (Whole0.some _ _ _) HF.out)
  have HOp : Hid (∀ w1 b m kv bv W, w.grownBy w1 none → S0 w1 b m kv bv s1 W → Calls Tryd.prog 27 #[.pointer (some ⟨b, 0, none⟩), .string ID, .agg #[.string dom, .string v], .slice none 0 0, .func (.func 25) #[] #[]] W fun e w' => e = .returned (.iface 153 (.pointer (some p))) ∧ W.grownBy w' none) := Lib.hid (fun w1 b m kv bv W hW h => by
    have := sOpen h (HE.out w1 hW) (HL.out w1 hW) HVe.out HV.out HD.out none 0 [] (by simp) (bytes_no W)
    have e0 : verE s1 (idText noughts) dom (strL v) [] = N := by
      unfold verE
      rw [s1_recE _ s1_get, if_pos HF.out, hN]
    rw [e0, hee] at this
    rw [HID.out]; exact this)
  have HVr : Hid (∀ w1 b m kv bv s W q c, S0 w1 b m kv bv s W → Bytes W (.slice (some ⟨q, 0, none⟩) v.size c) (strL v) → Calls Tryd.prog 28 #[.pointer (some ⟨m, 0, none⟩), .string ID, .string dom, .slice (some ⟨q, 0, none⟩) v.size c, .slice none 0 0] W fun e w' => e = .returned (.int .i64 (N : Int)) ∧ W.grownBy w' none) := Lib.hid (fun w1 b m kv bv s W q c h hB => by rw [HID.out, hN]; exact sVer_err h HD.out _ _ _ hB (Whole0.some _ _ _) (.slice none 0 0) HF.out)
  have HNe : Hid (∀ W, w.grownBy W none → Calls Tryd.prog 11 #[.iface 153 (.pointer (some p))] W fun e w' => e = .returned (.int .i64 (N : Int)) ∧ W.grownBy w' none) := Lib.hid (fun W hW => by
    have := HN.out N W (by rw [hN]; exact hN28) hW
    rw [hee] at this
    exact this)
  have hyb : (Y.toList == Y.toList) = true := beq_self_eq_true _
  have hob : (dom.toList == dom.toList) = true := beq_self_eq_true _
  clear hf hN28 hN hN0 hp hee hY
  go_enter Tryd.func6, Tryd.ntmps6
  go_wp2_with (first
  | (go_at_call 7; refine HAl.out.mono ?_; rintro e w1 ⟨rfl, hg1⟩; have G1 := Lib.hid hg1; clear hg1)
  | (go_at_call 14; refine (gnew_any w1).mono ?_; rintro e w2 ⟨rfl, hw2⟩; have P2 : Hid (PrG w1 (fun k => k = w1.heap.size) w1.heap.size Rg.none w2) := Lib.hid (by rw [hw2]; exact PrG.new (grown_refl _ _)); clear hw2)
  | (go_at_call 18; refine (HAd.out w1 _ w2 G1.out P2.out).mono ?_; rintro e w3 ⟨rfl, F3, hp3⟩; have P3 := Lib.hid hp3; clear hp3)
  | (go_at_call 23; refine (HMA.out w1 _ w3 P3.out).mono ?_; rintro e w5 ⟨rfl, kv, hs5⟩; have T5 := Lib.hid hs5; clear hs5)
  | (go_at_call 24; refine (HSl.out _ _ _ _ w5 G1.out T5.out).mono ?_; rintro e w6 ⟨rfl, hg6⟩; have T6 := Lib.hid (T5.out.still hg6); clear hg6)
  | (refine wpList_strBy (by rfl) 9 22 (.tmp 66) (by rfl) Tryd.underlying9 Tryd.underlying22 Tryd.underlying5 v (by rfl) ?_; intro c7 w7 hg7 hB7; have T7 := Lib.hid (T6.out.still hg7); have B7 := Lib.hid hB7; clear hg7 hB7)
  | (go_at_call 26; refine (HSg.out _ _ _ _ _ w7 _ _ T7.out B7.out).mono ?_; rintro e w8 ⟨rfl, hg8⟩; have T8 := Lib.hid (T7.out.still hg8); have cv1 := HCS.out w8; clear hg8)
  | (go_at_call 11; (with_reducible refine (HNe.out w8 (grown_trans G1.out T8.out.base)).mono ?_); rintro e w9 ⟨rfl, hg9⟩; have T9 := Lib.hid (T8.out.still hg9); clear hg9)
  | (go_at_call 27; (with_reducible refine (HOp.out _ _ _ _ _ w9 G1.out T9.out).mono ?_); rintro e w10 ⟨rfl, hg10⟩; have T10 := Lib.hid (T9.out.still hg10); clear hg10)
  | (go_at_call 11; (with_reducible refine (HNe.out w10 (grown_trans G1.out T10.out.base)).mono ?_); rintro e w11 ⟨rfl, hg11⟩; have T11 := Lib.hid (T10.out.still hg11); clear hg11)
  | (refine wpList_strBy (by rfl) 9 22 (.tmp 93) (by rfl) Tryd.underlying9 Tryd.underlying22 Tryd.underlying5 v (by rfl) ?_; intro c12 w12 hg12 hB12; have T12 := Lib.hid (T11.out.still hg12); have B12 := Lib.hid hB12; clear hg12 hB12)
  | (go_at_call 28; refine (HVr.out _ _ _ _ _ _ w12 _ _ T12.out B12.out).mono ?_; rintro e w13 ⟨rfl, hg13⟩; have T13 := Lib.hid (T12.out.still hg13); clear hg13))
  go_ret
  exact ⟨rfl, grown_trans G1.out T13.out.base⟩
end Go.Proofs.YtgdnndapmcjoeaaDoor
