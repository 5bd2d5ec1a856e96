import Derived.Test.YtgdnndapmcjoeaaDoorKa26
import Derived.Test.YtgdnndapmcjoeaaDoorKa45
namespace Go.Proofs.YtgdnndapmcjoeaaDoor
open Go.RowKit Go.Maps
set_option linter.unusedVariables false
def keyS' : ByteArray := ⟨#[107, 101, 121]⟩
def mkE (n : Nat) : Nat := if n < 16 then 2 else if 64 < n then 3 else 0
def mkL (d : List Nat) : List Nat := if mkE d.length = 0 then Hm.hmac d (frameOf (strL keyS') []) else []
theorem key_word : fErr (strL keyS') [] = 0 := by decide
theorem no_parts (w : World) : PartsW w 0 0 [] := fun i hi => absurd hi (by simp)
theorem bytes_nil (w : World) : Bytes w (.slice none 0 0) [] := ⟨by simp, none, 0, 0, 0, rfl, Nat.le_refl _, fun h => absurd h (by simp), fun j hj => absurd hj (by simp)⟩
set_option maxRecDepth 100000 in
set_option maxHeartbeats 400000 in
theorem make_any (A : Nat → Addr) (w : World) (va : Option Addr) (vc : Nat) (d : List Nat) (hB : Bytes w (.slice va d.length vc) d) (hl : d.length ≤ 1000) (hE : AllErrs w A) (hL : Laid w) :
    Calls Tryd.prog 9 #[.slice va d.length vc] w fun e w' => ∃ ua un uc, e = .returned (.tuple #[.slice ua un uc, errOf A (mkE d.length)]) ∧ Bytes w' (.slice ua un uc) (mkL d) ∧ w.grownBy w' none := by
  have eS := err_short hE
  have eL := errs_at hE 3 (by decide)
  simp only [errVars, List.getD_cons_zero, List.getD_cons_succ, Nat.add_one_sub_one] at eL
  by_cases h16 : d.length < 16
  · have e0 : mkE d.length = 2 := by unfold mkE; rw [if_pos h16]
    have eq : mkL d = [] := by unfold mkL; rw [e0]; rfl
    rw [e0, eq, errOf, if_neg (by decide)]
    have hi : ((d.length : Nat) : Int) < 16 := by omega
    generalize d.length = n at *
    clear hB hE hL
    go_enter Tryd.func9, Tryd.ntmps9
    go_wp2
    go_quiet (fail)
    go_wp2
    go_returns
    exact ⟨_, _, _, rfl, bytes_nil _, grown_drewN (grown_refl _ _) _⟩
  · by_cases h64 : 64 < d.length
    · have e0 : mkE d.length = 3 := by unfold mkE; rw [if_neg h16, if_pos h64]
      have eq : mkL d = [] := by unfold mkL; rw [e0]; rfl
      rw [e0, eq, errOf, if_neg (by decide)]
      have hi : ¬ ((d.length : Nat) : Int) < 16 := by omega
      have hi2 : (64 : Int) < ((d.length : Nat) : Int) := by omega
      generalize d.length = n at *
      clear hB hE hL
      go_enter Tryd.func9, Tryd.ntmps9
      go_wp2
      go_quiet (fail)
      go_wp2
      go_returns
      exact ⟨_, _, _, rfl, bytes_nil _, grown_drewN (grown_refl _ _) _⟩
    · have e0 : mkE d.length = 0 := by unfold mkE; rw [if_neg h16, if_neg h64]
      have eq : mkL d = Hm.hmac d (frameOf (strL keyS') []) := by unfold mkL; rw [if_pos e0]
      rw [e0, eq, errOf, if_pos rfl]
      have hi : ¬ ((d.length : Nat) : Int) < 16 := by omega
      have hi2 : ¬ (64 : Int) < ((d.length : Nat) : Int) := by omega
      obtain ⟨K, hK⟩ : ∃ K, K = Hm.hmac d (frameOf (strL keyS') []) := ⟨_, rfl⟩
      obtain ⟨D, hD⟩ : ∃ D, D = bytesV K := ⟨_, rfl⟩
      have hKl : K.length = 32 := by rw [hK]; exact hmac_len _ _
      have hK8 : ∀ x ∈ K, x < 256 := by rw [hK]; exact hmac_lt _ _
      have hDs : D.size = 32 := by rw [hD, bytesV_size, hKl]
      have HT := macTag_any (A := A) (.slice va d.length vc) d keyS' [] none 0 0 0 0 rfl w hB (by omega) (fun h => absurd h (by simp)) (no_parts w) (by decide) (by decide) hL hE
      unfold tagOut at HT
      rw [if_pos key_word, ← hK, ← hD] at HT
      have HT := Lib.hid HT
      have hz32 := zeros32_at w
      have HID : Hid ((Tryd.prog.info? 64).map (·.size) = some D.size) := Lib.hid (by rw [hDs]; kernel_rfl)
      have HIzD : Hid (zeros32.size = D.size) := Lib.hid (by rw [hDs]; rfl)
      have HOD : Hid (D.all (·.oneCell') = true) := Lib.hid (by rw [hD]; exact bytesV_one _)
      have HBy : Hid (∀ W g, W.heap[g]? = some (.cells D 64 (0, 0)) → Bytes W (.slice (some ⟨g, 0, none⟩) 32 32) K) := Lib.hid (fun W g h => by
        rw [hD] at h
        have := row_bytes hK8 h
        rw [hKl] at this; exact this)
      rw [← hK]
      generalize d.length = n at *
      clear hB hE hL hK hD hKl hK8 hDs h16 h64 e0 eq
      go_enter Tryd.func9, Tryd.ntmps9
      go_wp2_with (first
        | (go_at_call 29; refine HT.out.mono ?_; rintro e w4 ⟨rfl, hg4⟩; have g4 := Lib.hid hg4; have Z4 := Lib.hid (alloc_at w4 (.cells zeros32 64)); clear hg4)
        | (refine wpList_store_row (by rfl) 64 (.tmp 4) (.tmp 19) (by rfl) w4.heap.size D (by rfl) (by rfl) _ _ Z4.out HID.out HIzD.out HOD.out ?_; obtain ⟨W5, hW5⟩ : ∃ W5, W5 = (w4.alloc (.cells zeros32 64)).setRow w4.heap.size D := ⟨_, rfl⟩; rw [← hW5]; have g5 : Hid (w.grownBy W5 none) := Lib.hid (by rw [hW5]; exact grown_setRow (grown_alloc g4.out _) g4.out.size _); have b5 : Hid (W5.heap[w4.heap.size]? = some (.cells D 64 (0, 0))) := Lib.hid (by rw [hW5]; exact setRow_heap _ _ _ _ _ _ Z4.out); clear hW5))
      go_returns
      exact ⟨_, _, _, rfl, HBy.out _ _ b5.out, g5.out⟩
set_option maxRecDepth 100000 in
set_option maxHeartbeats 400000 in
theorem refMake_any (w : World) (va : Option Addr) (vc : Nat) (d : List Nat) (hB : Bytes w (.slice va d.length vc) d) (h0 : Whole0 (.slice va d.length vc)) (hl : d.length ≤ 1000) :
    Calls Tryd.prog 10 #[.slice va d.length vc] w fun e w' => ∃ ua un uc, e = .returned (.tuple #[.slice ua un uc, .int .i64 (mkE d.length : Nat)]) ∧ Bytes w' (.slice ua un uc) (mkL d) ∧ w.grownBy w' none := by
  by_cases h16 : d.length < 16
  · have e0 : mkE d.length = 2 := by unfold mkE; rw [if_pos h16]
    have eq : mkL d = [] := by unfold mkL; rw [e0]; rfl
    rw [e0, eq]
    have hi : ((d.length : Nat) : Int) < 16 := by omega
    generalize d.length = n at *
    clear hB h0
    go_enter Tryd.func10, Tryd.ntmps10
    go_wp2
    go_returns
    exact ⟨_, _, _, rfl, bytes_nil _, grown_refl _ _⟩
  · by_cases h64 : 64 < d.length
    · have e0 : mkE d.length = 3 := by unfold mkE; rw [if_neg h16, if_pos h64]
      have eq : mkL d = [] := by unfold mkL; rw [e0]; rfl
      rw [e0, eq]
      have hi : ¬ ((d.length : Nat) : Int) < 16 := by omega
      have hi2 : (64 : Int) < ((d.length : Nat) : Int) := by omega
      generalize d.length = n at *
      clear hB h0
      go_enter Tryd.func10, Tryd.ntmps10
      go_wp2
      go_returns
      exact ⟨_, _, _, rfl, bytes_nil _, grown_refl _ _⟩
    · have e0 : mkE d.length = 0 := by unfold mkE; rw [if_neg h16, if_neg h64]
      have eq : mkL d = Hm.hmac d (frameOf (strL keyS') []) := by unfold mkL; rw [if_pos e0]
      rw [e0, eq]
      have hi : ¬ ((d.length : Nat) : Int) < 16 := by omega
      have hi2 : ¬ (64 : Int) < ((d.length : Nat) : Int) := by omega
      obtain ⟨K, hK⟩ : ∃ K, K = Hm.hmac d (frameOf (strL keyS') []) := ⟨_, rfl⟩
      obtain ⟨D, hD⟩ : ∃ D, D = bytesV K := ⟨_, rfl⟩
      have hKl : K.length = 32 := by rw [hK]; exact hmac_len _ _
      have hK8 : ∀ x ∈ K, x < 256 := by rw [hK]; exact hmac_lt _ _
      have hDs : D.size = 32 := by rw [hD, bytesV_size, hKl]
      have HT := refTag_any (.slice va d.length vc) d keyS' [] none 0 0 0 0 rfl w hB h0 (by omega) (fun h => absurd h (by simp)) (no_parts w) (by decide) (by decide) key_word
      rw [← hK, ← hD] at HT
      have HT := Lib.hid HT
      have hz32 := zeros32_at w
      have HID : Hid ((Tryd.prog.info? 64).map (·.size) = some D.size) := Lib.hid (by rw [hDs]; kernel_rfl)
      have HIzD : Hid (zeros32.size = D.size) := Lib.hid (by rw [hDs]; rfl)
      have HOD : Hid (D.all (·.oneCell') = true) := Lib.hid (by rw [hD]; exact bytesV_one _)
      have HBy : Hid (∀ W g, W.heap[g]? = some (.cells D 64 (0, 0)) → Bytes W (.slice (some ⟨g, 0, none⟩) 32 32) K) := Lib.hid (fun W g h => by
        rw [hD] at h
        have := row_bytes hK8 h
        rw [hKl] at this; exact this)
      have HK8 := Lib.hid hK8
      have HKl := Lib.hid hKl
      have HU := Lib.hid uInfo
      rw [← hK]
      generalize d.length = n at *
      clear hB h0 hK hD hKl hK8 hDs h16 h64 e0 eq
      go_enter Tryd.func10, Tryd.ntmps10
      go_wp2_with (first
        | (go_at_call 22; refine HT.out.mono ?_; rintro e w4 ⟨rfl, hg4⟩; have g4 := Lib.hid hg4; have Z4 := Lib.hid (alloc_at w4 (.cells zeros32 64)); clear hg4)
        | (refine wpList_store_row (by rfl) 64 (.tmp 4) (.tmp 12) (by rfl) w4.heap.size D (by rfl) (by rfl) _ _ Z4.out HID.out HIzD.out HOD.out ?_; obtain ⟨W5, hW5⟩ : ∃ W5, W5 = (w4.alloc (.cells zeros32 64)).setRow w4.heap.size D := ⟨_, rfl⟩; rw [← hW5]; have g5 : Hid (w.grownBy W5 none) := Lib.hid (by rw [hW5]; exact grown_setRow (grown_alloc g4.out _) g4.out.size _); have b5 : Hid (W5.heap[w4.heap.size]? = some (.cells D 64 (0, 0))) := Lib.hid (by rw [hW5]; exact setRow_heap _ _ _ _ _ _ Z4.out); clear hW5)
        | (obtain ⟨W6, hW6⟩ : ∃ W6, W6 = W5.alloc (.cells #[] 5) := ⟨_, rfl⟩; rw [← hW6]; refine wpList_appB (by rfl) (.tmp 13) (.tmp 14) 22 (by rfl) W5.heap.size 5 _ 1 Tryd.underlying22 HU.out rfl (by decide) _ 0 [] (by rfl) (by rw [hW6]; exact ownsRow_lit (cs := #[]) (alloc_at W5 _) (Nat.le_refl _) (by simp)) _ K (by rfl) (HBy.out W6 _ (by rw [hW6]; exact alloc_keep b5.out)) (Whole0.some _ _ _) (by rw [HKl.out]; decide) (by rw [hW6, alloc_size]; omega) ?_; intro v7 w7 ho7 hg7; obtain ⟨a7, g7, c7, rfl, _⟩ := ownsRow_form ho7; have HO7 := Lib.hid ho7; have G7 : Hid (w.grownBy w7 none) := Lib.hid (grown_own (by rw [hW6]; exact grown_alloc g5.out _) (ownsRow_lit (cs := #[]) (by rw [hW6]; exact alloc_at W5 _) (Nat.le_refl W5.heap.size) (by simp)) g5.out.size hg7); clear ho7 hg7))
      go_returns
      refine ⟨_, _, _, rfl, ?_, G7.out⟩
      have := HO7.out
      rw [List.nil_append, Nat.zero_add] at this
      exact Bytes.own this HK8.out
end Go.Proofs.YtgdnndapmcjoeaaDoor
namespace Go.Proofs.YtgdnndapmcjoeaaDoor
open Go.RowKit Go.Maps
set_option linter.unusedVariables false
set_option maxRecDepth 100000 in
set_option maxHeartbeats 1000000 in
theorem keysMake_any (A : Nat → Addr) (v : Value) (l : List Nat) (w : World) (hB : Bytes w v l) (h0 : Whole0 v) (hln : l.length ≤ 9223372036854775807) (hE : AllErrs w A) (hL : Laid w) :
    Calls Tryd.prog 3 #[v] w fun e w' => e = .returned (.bool true) ∧ w.grownBy w' none := by
  have HAl := Lib.hid (alive10_any A w hE hL)
  have HE := Lib.hid (fun W hW => hE.grown (w' := W) hW)
  have HB := Lib.hid hB
  have H0 := Lib.hid h0
  obtain ⟨hlt, va, sb, so, vc, rfl, _, _, _⟩ := hB
  have HLt := Lib.hid hlt
  have HLd := Lib.hid hL
  obtain ⟨n, hn⟩ : ∃ n, n = l.length := ⟨_, rfl⟩
  have HN := Lib.hid hn
  rw [← hn] at HB H0 ⊢
  by_cases h100 : 300 < n
  · have hi : (300 : Int) < (n : Int) := by omega
    clear h0 hn hlt hE hL hln
    go_enter Tryd.func3, Tryd.ntmps3
    go_wp2_with (go_at_call 7; refine HAl.out.mono ?_; rintro e w1 ⟨rfl, hg1⟩; have HG1 := Lib.hid hg1; clear hg1)
    go_ret
    exact ⟨rfl, HG1.out⟩
  have hi : ¬ (300 : Int) < (n : Int) := by omega
  have HNB : Hid (∀ W, w.grownBy W none → Calls Tryd.prog 8 #[.slice va n vc] W fun e w' => ∃ g c, e = .returned (.slice (some ⟨g, 0, none⟩) n c) ∧ n + 6 ≤ c ∧ c ≤ maxLen ∧ W.grownBy w' none ∧ g < w'.heap.size ∧ Room w' g l) := Lib.hid (fun W hW => by
    have := numBytes_any _ l W (HB.out.grown hW) H0.out (by rw [← HN.out]; omega)
    rw [← HN.out] at this
    exact this.mono (by
      rintro e w' ⟨g, c, h1, h2, h3, _, ⟨cur, fr, h5⟩, h6, h7⟩
      exact ⟨g, c, h1, h2, h3, h6, blk_lt h5, h7⟩))
  have HKp : Hid (∀ g c (W : World), n + 6 ≤ c → c ≤ maxLen → g < W.heap.size → Room W g l → w.grownBy W none → Calls Tryd.prog 12 #[.slice (some ⟨g, 0, none⟩) n c, .slice va n vc] W fun e w' => e = .returned (.bool true) ∧ W.grownBy w' none) := Lib.hid (fun g c W h1 h2 h3 h4 h5 => (kept_any g n c _ l W HN.out.symm h1 (by unfold maxLen at h2; omega) h3 h4 (HB.out.grown h5)).mono (by
    rintro e w' ⟨rfl, m, hm⟩
    exact ⟨rfl, by rw [hm]; exact grown_drewN (grown_refl _ _) _⟩))
  obtain ⟨k, hk⟩ : ∃ k, k = mkE n := ⟨_, rfl⟩
  have hk28 : k ≤ 28 := by rw [hk]; unfold mkE; repeat' split
                           all_goals decide
  obtain ⟨K, hK⟩ : ∃ K, K = mkL l := ⟨_, rfl⟩
  obtain ⟨X, hX⟩ : ∃ X, X = strOf K := ⟨_, rfl⟩
  obtain ⟨ev, hev⟩ : ∃ ev, ev = errOf A k := ⟨_, rfl⟩
  have HMk : Hid (∀ g c (W : World), n + 6 ≤ c → g < W.heap.size → Room W g l → w.grownBy W none → Calls Tryd.prog 9 #[.slice (some ⟨g, 0, none⟩) n c] W fun e w' => ∃ ua un uc, e = .returned (.tuple #[.slice ua un uc, ev]) ∧ Bytes w' (.slice ua un uc) K ∧ W.grownBy w' none) := Lib.hid (fun g c W h1 h2 h3 h4 => by
    have hb := h3.bytes (c := c) HLt.out h2 (by rw [← HN.out]; omega)
    have := make_any A W _ c l hb (by rw [← HN.out]; omega) (HE.out W h4) (HLd.out.grown h4 (by simp) (by simp))
    rw [← HN.out, ← hk, ← hK, ← hev] at this
    exact this)
  have HRk : Hid (∀ W, w.grownBy W none → Calls Tryd.prog 10 #[.slice va n vc] W fun e w' => ∃ ua un uc, e = .returned (.tuple #[.slice ua un uc, .int .i64 (k : Nat)]) ∧ Bytes w' (.slice ua un uc) K ∧ W.grownBy w' none) := Lib.hid (fun W hW => by
    have hb := HB.out.grown hW
    have h00 := H0.out
    rw [HN.out] at hb h00
    have := refMake_any W va vc l hb h00 (by rw [← HN.out]; omega)
    rw [← HN.out, ← hk, ← hK] at this
    exact this)
  have HNm : Hid (∀ W, w.grownBy W none → Calls Tryd.prog 11 #[ev] W fun e w' => e = .returned (.int .i64 (k : Nat)) ∧ W.grownBy w' none) := Lib.hid (fun W hW => by
    rw [hev]
    exact num_of A k hk28 W (HE.out W hW))
  have HC : Hid (∀ W u, Bytes W u K → (convert 22 9 u).run Tryd.prog W = .ok (.string X) W) := Lib.hid (fun W u h => by rw [hX]; exact conv_bytes h _ 5 _ Tryd.underlying22 Tryd.underlying5 Tryd.underlying9)
  clear h0 hn hlt hE hL hln hk hk28 hK hX hev h100
  go_enter Tryd.func3, Tryd.ntmps3
  go_wp2_with (first
    | (go_at_call 7; refine HAl.out.mono ?_; rintro e w1 ⟨rfl, hg1⟩; have HG1 := Lib.hid hg1; clear hg1)
    | (go_at_call 8; refine (HNB.out _ HG1.out).mono ?_; rintro e w2 ⟨gB, c, rfl, hc1, hc2, hg2, hgB, hRm⟩; have HG2 := Lib.hid (grown_trans HG1.out hg2); have Hc1 := Lib.hid hc1; have Hc2 := Lib.hid hc2; have HRm := Lib.hid (fun (W : World) (hW : w2.grownBy W none) => And.intro (Nat.lt_of_lt_of_le hgB hW.size) (hRm.grown hgB hW (by simp))); clear hg2 hc1 hc2 hgB hRm)
    | (go_at_call 9; refine (HMk.out _ _ _ Hc1.out (HRm.out _ (grown_refl _ _)).1 (HRm.out _ (grown_refl _ _)).2 HG2.out).mono ?_; rintro e w3 ⟨ua, un, uc, rfl, hb3, hg3⟩; have HB3 := Lib.hid hb3; have HG23 := Lib.hid hg3; have HG3 := Lib.hid (grown_trans HG2.out hg3); clear hg3 hb3)
    | (go_at_call 10; refine (HRk.out _ HG3.out).mono ?_; rintro e w4 ⟨xa, xn, xc, rfl, hb4, hg4⟩; have cv1 := HC.out w4 _ (HB3.out.grown hg4); have cv2 := HC.out w4 _ hb4; have HG24 := Lib.hid (grown_trans HG23.out hg4); have HG4 := Lib.hid (grown_trans HG3.out hg4); clear hg4 hb4)
    | (go_at_call 11; refine (HNm.out _ HG4.out).mono ?_; rintro e w5 ⟨rfl, hg5⟩; have HG25 := Lib.hid (grown_trans HG24.out hg5); have HG5 := Lib.hid (grown_trans HG4.out hg5); clear hg5)
    | (go_at_call 12; refine (HKp.out _ _ _ Hc1.out Hc2.out (HRm.out _ HG25.out).1 (HRm.out _ HG25.out).2 HG5.out).mono ?_; rintro e w6 ⟨rfl, hg6⟩; have HG6 := Lib.hid (grown_trans HG5.out hg6); clear hg6))
  go_ret
  exact ⟨rfl, HG6.out⟩
end Go.Proofs.YtgdnndapmcjoeaaDoor
