import Derived.Test.YtagdcjpjbjboeaaGreatDoorZb06
import Derived.Test.YtagdcjpjbjboeaaGreatDoorZb07
import Derived.Test.YtagdcjpjbjboeaaGreatDoorZb10
import Derived.Test.YtagdcjpjbjboeaaGreatDoorZb12
import Derived.Test.YtagdcjpjbjboeaaGreatDoorZb16
import Derived.Test.YtagdcjpjbjboeaaGreatDoorZb25
import Derived.Test.YtagdcjpjbjboeaaGreatDoorZb33
namespace Go.Proofs.YtagdcjpjbjboeaaGreatDoor
open Go.RowKit
set_option linter.unusedVariables false
theorem lt_getD {l : List Nat} (h : ∀ x ∈ l, x < 256) (i : Nat) : l.getD i 0 < 256 := by
  rw [List.getD_eq_getElem?_getD]
  cases e : l[i]? with
  | none => exact Nat.zero_lt_succ _
  | some x => exact h x (List.mem_of_getElem? e)
set_option maxRecDepth 100000 in
theorem named_any (u : Nat) (v : Value) (l : List Nat) (w : World) (hu : u < 256) (hB : Bytes w v l) (hl : l.length ≤ 1000) :
    Calls Tryz.prog 182 #[.int .u8 u, v] w fun e w' => e = .returned (.bool (Pt.named u l)) ∧ w' = w := by
  have HB := Lib.hid hB
  obtain ⟨hlt, a, sb, so, c, rfl, hc, ha, hcell⟩ := hB
  rw [Pt.named]
  by_cases h0 : l.length = 0
  · rw [if_pos h0, h0]
    have d0 : ((u : Int) == 0) = decide (u = 0) := by rw [Bool.eq_iff_iff, beq_iff_eq, decide_eq_true_iff]; omega
    clear hlt ha hcell hc
    go_enter Tryz.func182, Tryz.ntmps182
    go_wp2
    go_ret
    exact ⟨rfl, rfl⟩
  · rw [if_neg h0]
    obtain ⟨n, hn⟩ : ∃ n, l.length = n + 1 := ⟨l.length - 1, by omega⟩
    obtain ⟨rfl, hsb⟩ := ha (by omega)
    have hcl := hcell n (by omega)
    have hx : l.getD n 0 < 256 := lt_getD hlt n
    rw [hn, Nat.add_sub_cancel]
    generalize l.getD n 0 = x at *
    have hz := ntz_any x hx w
    have dz : (((Lib.trailingZeros8 x : Nat) : Int) == (u : Int)) = decide (Lib.trailingZeros8 x = u) := by rw [Bool.eq_iff_iff, beq_iff_eq, decide_eq_true_iff]; omega
    clear hlt ha hcell HB h0
    by_cases h8 : 8 ≤ u ∨ 2 < n + 1
    · rw [if_pos h8]
      by_cases h8' : 8 ≤ u
      · go_enter Tryz.func182, Tryz.ntmps182
        go_wp2
        go_ret
        exact ⟨rfl, rfl⟩
      · have h2 : (2 : Int) < (n : Int) + 1 := by omega
        go_enter Tryz.func182, Tryz.ntmps182
        go_wp2
        go_ret
        exact ⟨rfl, rfl⟩
    · rw [if_neg h8]
      have h8' : ¬ (8 : Int) ≤ (u : Int) := by omega
      have h2 : ¬ (2 : Int) < (n : Int) + 1 := by omega
      go_enter Tryz.func182, Tryz.ntmps182
      go_wp2_with (go_at_call 218; refine hz.mono ?_; rintro e w' ⟨rfl, rfl⟩)
      go_ret
      exact ⟨rfl, rfl⟩
set_option maxRecDepth 100000 in
theorem flags_any (A : Nat → Addr) (w : World) (hR : RngErr w A) : TxFlags A w := by
  intro m W hm hg
  have hR' := (hR.grown hg).range
  unfold inT at hm
  by_cases h0 : isMk m
  · simp only [if_pos h0]
    unfold isMk at h0
    obtain ⟨k, rfl⟩ := Int.eq_ofNat_of_zero_le h0.1
    have hk : k < 32768 := by omega
    rw [Int.toNat_natCast]
    have hL := blen_any k (by omega) W
    rw [Pt.bitLen_size hk] at hL
    have hs : Pt.size k ≤ 15 := Pt.size_le_of (k := 15) (by omega)
    have h16 := fun W => rev16_any k (by omega) W
    have hF := Pt.flags_two hk
    have r1 := Pt.rev8_lt (k % 256)
    have r2 := Pt.rev8_lt (k / 256)
    have u1 : IntKind.u64.wrap (k : Int) = k := by rw [IntKind.wrap_u64]; omega
    have u2 : IntKind.u16.wrap (k : Int) = k := by rw [IntKind.wrap_u16]; omega
    generalize Pt.flags k = F at *
    generalize Pt.size k = s at *
    generalize Pt.rev8 (k % 256) = x at *
    generalize Pt.rev8 (k / 256) = y at *
    have HF := Lib.hid hF
    clear hF hR' hR hg
    have n1 : ¬ (k : Int) < 0 := by omega
    have n2 : ¬ (32767 : Int) < (k : Int) := by omega
    go_enter Tryz.func151, Tryz.ntmps151
    go_wp2_with (first
      | (go_at_call 194; refine hL.mono ?_; rintro e w1 ⟨rfl, rfl⟩)
      | (go_at_call 183; refine (h16 _).mono ?_; rintro e w1 ⟨rfl, q, rfl⟩))
    go_ret2
    have e1 : ((s : Int) + 8 - 1) / 8 * 8 - s = ((8 * ((s + 7) / 8) - s : Nat) : Int) := by omega
    have e2 : ((y : Int) + 256 * x) / 256 = (x : Nat) := by omega
    have e3 : ((y : Int) + 256 * x) % 256 = (y : Nat) := by omega
    have e4 : 1 + (s + 8 - 1) / 8 = 1 + (s + 7) / 8 := by omega
    have hlen : F.length = 1 + (s + 7) / 8 := by rw [HF.out, List.length_take, List.length_cons, List.length_cons, List.length_cons, List.length_nil]; omega
    have e5 : (y : Int) % 256 = (y : Nat) := by omega
    rw [e1, e2, e3, e4, e5, hlen]
    refine ⟨grown_trans (grown_drewN (grown_refl _ _) _) (World.grownBy_alloc _ _ _), _, _, rfl, ?_⟩
    have hb := Bytes.lit (t := 5) (fr := (0, 0)) (l := [8 * ((s + 7) / 8) - s, x, y]) (alloc_at (w1.drewN q) _) (by
      intro z hz
      simp at hz
      omega)
    have := hb.to (1 + (s + 7) / 8) (by simp; omega)
    rw [← HF.out] at this
    exact this
  · simp only [if_neg h0]
    unfold isMk at h0
    by_cases n1 : m < 0
    · go_enter Tryz.func151, Tryz.ntmps151
      go_wp2
      go_quiet (fail)
      go_wp2
      go_ret2
      exact ⟨grown_drewN (grown_refl _ _) _, _, _, rfl⟩
    · have n2 : (32767 : Int) < m := by omega
      go_enter Tryz.func151, Tryz.ntmps151
      go_wp2
      go_quiet (fail)
      go_wp2
      go_ret2
      exact ⟨grown_drewN (grown_refl _ _) _, _, _, rfl⟩
theorem u16_pair (x y : Nat) (hx : x < 256) (hy : y < 256) : bits .or .u16 ((x : Int) * 256) (y : Int) = ((256 * x + y : Nat) : Int) := by
  have e2 : ((x : Int) * 256) = ((256 * x : Nat) : Int) := by omega
  rw [e2, u16_or_nat _ _ (by omega) (by omega), nat_join8 _ _ (by omega) hy]
theorem named_len {u : Nat} {its : List Nat} (h : Pt.named u its = true) : its.length ≤ 2 := by
  unfold Pt.named at h
  split at h
  · omega
  · split at h
    · cases h
    · omega
theorem two_cells (its : List Nat) (h : its.length ≤ 2) : bytesV (its ++ [0, 0].drop its.length) = #[.int .u8 (its.getD 0 0 : Nat), .int .u8 (its.getD 1 0 : Nat)] := by
  match its, h with
  | [], _ => rfl
  | [x], _ => rfl
  | [x, y], _ => rfl
set_option maxHeartbeats 1000000 in
set_option maxRecDepth 100000 in
theorem mask_any (A : Nat → Addr) (w : World) (hE : AllErrs w A) : TxMask A w := by
  intro v l W hg hB hl
  have hEW := hE.grown hg
  have HB := Lib.hid hB
  obtain ⟨hlt, a, sb, so, c, rfl, hc, ha, hcell⟩ := hB
  match l, HB, hl, hlt, hc, ha, hcell with
  | [], HB, _, _, _, _, _ =>
    have he := err_short hEW
    go_enter Tryz.func132, Tryz.ntmps132
    go_wp2
    go_quiet (fail)
    go_wp2
    go_ret2
    exact ⟨grown_drewN (grown_refl _ _) _, rfl⟩
  | u :: its, HB, hl, hlt, hc, ha, hcell =>
    obtain ⟨rfl, hsb⟩ := ha (by simp)
    have hu : u < 256 := hlt u (by simp)
    have h8 : ∀ x ∈ its, x < 256 := fun x hx => hlt x (by simp [hx])
    rw [Pt.mask_named u its h8]
    have h0 := hcell 0 (by simp)
    rw [List.getD_cons_zero, Nat.add_zero] at h0
    have hN := named_any u (.slice (subA (some ⟨sb, so, none⟩) 1 c) its.length (c - 1)) its
    obtain ⟨n, hn⟩ : ∃ n, n = its.length := ⟨_, rfl⟩
    have hF : ∀ W2, Bytes W2 (.slice (some ⟨sb, so, none⟩) (u :: its).length c) (u :: its) → Bytes W2 (.slice (subA (some ⟨sb, so, none⟩) 1 c) its.length (c - 1)) its := fun W2 h => by
      have := h.from 1 (by simp)
      simpa using this
    rw [List.length_cons] at hc hl HB hF ⊢
    rw [← hn] at hN hc hl HB hF ⊢
    have HN : Hid (∀ W2, Bytes W2 (.slice (some ⟨sb, so, none⟩) (n + 1) c) (u :: its) → Calls Tryz.prog 182 #[.int .u8 u, .slice (subA (some ⟨sb, so, none⟩) 1 c) n (c - 1)] W2 fun e w' => e = .returned (.bool (Pt.named u its)) ∧ w' = W2) := Lib.hid (fun W2 h => hN W2 hu (hF W2 h) (by omega))
    have hf := err_form hEW
    have hr := err_range hEW
    clear hN hF hlt hcell hE hEW hg
    have HN' := Lib.hid hn
    clear hn
    by_cases hnm : Pt.named u its = true
    · rw [if_pos hnm]
      have h2 := named_len hnm
      rw [hnm] at HN
      have hx := lt_getD h8 0
      have hy := lt_getD h8 1
      have htwo := two_cells its h2
      have hT : Pt.twoOf its = Pt.rev8 (its.getD 0 0) + 256 * Pt.rev8 (its.getD 1 0) := rfl
      have rx := Pt.rev8_lt (its.getD 0 0)
      have ry := Pt.rev8_lt (its.getD 1 0)
      rw [hT]
      generalize its.getD 0 0 = x at *
      generalize its.getD 1 0 = y at *
      have hrv := fun W => rev16_any (256 * x + y) (by omega) W
      rw [← u16_pair x y hx hy] at hrv
      rw [show (256 * x + y) / 256 = x by omega, show (256 * x + y) % 256 = y by omega] at hrv
      obtain ⟨m, hm⟩ : ∃ m, m = Pt.rev8 x + 256 * Pt.rev8 y := ⟨_, rfl⟩
      rw [← hm] at hrv ⊢
      have hm2 : m < 65536 := by omega
      obtain ⟨R, hR⟩ : ∃ R, R = (if 32767 < m then Except.error 1 else Except.ok m : Except Nat Nat) := ⟨_, rfl⟩
      rw [← hR]
      have HR := Lib.hid hR
      clear hR
      have HT := Lib.hid htwo
      have H2 : Hid (its.length ≤ 2) := Lib.hid h2
      clear htwo hT rx ry hm hnm h2
      have HBf : Hid (∀ W2, Bytes W2 (.slice (some ⟨sb, so, none⟩) (n + 1) c) (u :: its) → Bytes W2 (.slice (subA (some ⟨sb, so, none⟩) 1 c) n (c - 1)) its) := Lib.hid (fun W2 h => by
        have := h.from 1 (by omega)
        simpa using this)
      go_enter Tryz.func132, Tryz.ntmps132
      go_wp2
      go_quiet ((go_at_call 182; exact Calls.quiet_of_same (HN.out _ (HB.out.grown (grown_drewN (grown_refl _ _) _)))))
      go_wp2
      refine wp_region_quiet_tail (fun w' => ∃ n, w' = ((W.drewN nq).alloc (.cells #[.int .u8 0, .int .u8 0] 229 (0, 0))).drewN n) 3 (by kernel_rfl) (by kernel_rfl) ⟨1, rfl⟩ ?_
      simp only [List.take_succ_cons, List.take_zero, List.drop_succ_cons, List.drop_zero]
      repeat (first | go_big_quiet_step (fail) | quiet_step (fail))
      refine wpQuiet_nil ?_
      rintro _ ⟨nq2, rfl⟩
      have hgW : W.grownBy (((W.drewN nq).alloc (.cells #[.int .u8 0, .int .u8 0] 229 (0, 0))).drewN nq2) none := grown_drewN (grown_alloc (grown_drewN (grown_refl _ _) _) _) _
      have hB3 := (HBf.out _ HB.out).grown hgW
      refine wpList_copyB' (by rfl) (.tmp 18) (.tmp 20) 22 22 (by rfl) Tryz.underlying22 (by kernel_rfl) (b := (W.drewN nq).heap.size) (N := 2) (Z := [0, 0]) (l := its) (T := 229) (by rfl) (by rfl) (alloc_at (W.drewN nq) _) rfl hB3 H2.out ?_
      intro w3 h3 hg3
      rw [HT.out] at h3
      have c0 : w3.cell? ⟨(W.drewN nq).heap.size, 0, none⟩ = some (.int .u8 (x : Nat)) := cell_blk h3 0 rfl
      have c1 : w3.cell? ⟨(W.drewN nq).heap.size, 1, none⟩ = some (.int .u8 (y : Nat)) := cell_blk h3 1 rfl
      have hg3' : W.grownBy w3 none := grown_forget hgW (Nat.le_refl _) hg3
      have hr3 := (hr : W.cell? ⟨0, 0, none⟩ = some (errV A 1))
      rw [← World.cell?_of_block (hg3'.block _ (World.block_lt_of_cell? W _ hr) (by simp))] at hr3
      have HG3 := Lib.hid hg3'
      have hh : (W.drewN nq).heap.size = W.heap.size := rfl
      rw [hh] at c0 c1
      clear hgW hB3 h3 hg3 hg3' hr h0 hf
      by_cases hq : 32767 < m
      · have HRe := HR.out
        rw [if_pos hq] at HRe
        subst HRe
        have hqz : (32767 : Int) < (m : Int) := by omega
        go_wp2_with (go_at_call 183; with_reducible refine (hrv _).mono ?_; rintro e w1 ⟨rfl, q, rfl⟩)
        go_quiet (fail)
        go_wp2
        go_ret2
        exact ⟨grown_drewN (grown_drewN HG3.out _) _, rfl⟩
      · have HRe := HR.out
        rw [if_neg hq] at HRe
        subst HRe
        have hqz : ¬ (32767 : Int) < (m : Int) := by omega
        go_wp2_with (go_at_call 183; with_reducible refine (hrv _).mono ?_; rintro e w1 ⟨rfl, q, rfl⟩)
        go_ret2
        exact ⟨grown_drewN HG3.out _, rfl⟩
    · rw [if_neg hnm]
      have hnm' : Pt.named u its = false := by simpa using hnm
      rw [hnm'] at HN
      clear hnm hnm'
      go_enter Tryz.func132, Tryz.ntmps132
      go_wp2
      go_quiet ((go_at_call 182; exact Calls.quiet_of_same (HN.out _ (HB.out.grown (grown_drewN (grown_refl _ _) _)))))
      go_wp2
      go_quiet (fail)
      go_wp2
      go_ret2
      exact ⟨grown_drewN (grown_drewN (grown_refl _ _) _) _, rfl⟩
end Go.Proofs.YtagdcjpjbjboeaaGreatDoor
