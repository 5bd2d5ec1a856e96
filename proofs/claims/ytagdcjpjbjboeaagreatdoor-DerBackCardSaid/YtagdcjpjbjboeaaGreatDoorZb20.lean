import Derived.Test.YtagdcjpjbjboeaaGreatDoorZb03
import Derived.Test.YtagdcjpjbjboeaaGreatDoorZb12
import Derived.Test.YtagdcjpjbjboeaaGreatDoorZb13
import Derived.Test.YtagdcjpjbjboeaaGreatDoorZb17
import Derived.Test.YtagdcjpjbjboeaaGreatDoorZb19
namespace Go.Proofs.YtagdcjpjbjboeaaGreatDoor
open Go.RowKit
theorem lenB1 {n : Nat} (h : n < 128) : Tl.lenB n = [n] := by unfold Tl.lenB; rw [if_pos h]
theorem lenB2 {n : Nat} (h : ¬ n < 128) (h2 : n < 256) : Tl.lenB n = [129, n] := by
  unfold Tl.lenB Tl.more
  rw [if_neg h, if_neg h, if_pos h2]
  simp [Tl.be]
  omega
theorem lenB3 {n : Nat} (h : ¬ n < 256) (h2 : n < 65536) : Tl.lenB n = [130, n / 256, n % 256] := by
  unfold Tl.lenB Tl.more
  rw [if_neg (by omega), if_neg (by omega), if_neg h, if_pos h2]
  simp [Tl.be]
  omega
end Go.Proofs.YtagdcjpjbjboeaaGreatDoor
namespace Go.Proofs.YtagdcjpjbjboeaaGreatDoor
open Go.RowKit
theorem or_sum (a x : Nat) (ha : a < 1099511627776) (hx : x < 256) : bits .or .i64 ((a : Int) * 256) (x : Int) = ((256 * a + x : Nat) : Int) := by
  have e : (a : Int) * 256 = ((256 * a : Nat) : Int) := by rw [Nat.mul_comm]; simp
  rw [e]
  have hw : ∀ n : Nat, n < 9223372036854775808 → (BitVec.ofInt 64 (n : Int)).toNat = n := fun n hn => by
    rw [BitVec.ofInt_natCast, BitVec.toNat_ofNat]; exact Nat.mod_eq_of_lt (by omega)
  show IntKind.i64.wrap ((BitVec.ofInt 64 ((256 * a : Nat) : Int) ||| BitVec.ofInt 64 (x : Int)).toNat : Int) = _
  rw [BitVec.toNat_or, hw _ (by omega), hw _ (by omega)]
  have e2 : 256 * a ||| x = 256 * a + x := (Nat.two_pow_add_eq_or_of_lt (i := 8) (b := x) (by omega) a).symm
  rw [e2]
  simp only [IntKind.wrap, IntKind.bits, IntKind.signed]
  simp
  omega
theorem num_take (l : List Nat) (k : Nat) (h : k < l.length) : Tl.num (l.take (k + 1)) = 256 * Tl.num (l.take k) + l.getD k 0 := by
  rw [List.take_add_one, List.getElem?_eq_getElem h, Tl.num, List.foldl_append, ← Tl.num]
  simp [List.getD_eq_getElem?_getD, List.getElem?_eq_getElem h]
theorem num_lt {l : List Nat} (hl : ∀ x ∈ l, x < 256) : ∀ k, k ≤ l.length → Tl.num (l.take k) < 256 ^ k
  | 0, _ => by simp [Tl.num]
  | k + 1, h => by
    have := num_lt hl k (by omega)
    have hx := getD_lt' hl k
    rw [num_take l k (by omega), Nat.pow_succ]
    omega
set_option maxRecDepth 100000 in
set_option maxHeartbeats 400000 in
theorem number_any (v : Value) (l : List Nat) (w : World) (hB : Bytes w v l) (hl : l.length ≤ 4) :
    Calls Tryz.prog 206 #[v] w fun e w' => e = .returned (.int .i64 (Tl.num l : Nat)) ∧ w' = w := by
  obtain ⟨hlt, a, sb, so, c, rfl, hc, ha, hcell⟩ := hB
  obtain ⟨n, hn⟩ : ∃ n, n = l.length := ⟨_, rfl⟩
  rw [← hn] at hc ha hcell hl ⊢
  have Ha := Lib.hid ha
  have Hcell := Lib.hid hcell
  have Hlt := Lib.hid hlt
  have HN := Lib.hid hn
  clear ha hcell hlt hn
  go_enter Tryz.func206, Tryz.ntmps206
  go_wp2
  go_loopw [3, 8] (fun x i wr => ∃ k : Nat, k ≤ n ∧ i = .int .i64 k ∧ x = .int .i64 (Tl.num (l.take k) : Nat) ∧ wr = w) (fun _ i _ => n - (intOf i).toNat)
  case atStart => exact ⟨0, Nat.zero_le _, rfl, rfl, rfl⟩
  case round =>
    obtain ⟨k, hk, rfl, rfl, rfl⟩ := hrel
    have hnum := num_lt Hlt.out k (by rw [← HN.out]; exact hk)
    have h4 : 256 ^ k ≤ 4294967296 := Nat.pow_le_pow_right (n := 256) (by decide) (show k ≤ 4 by omega)
    by_cases hkn : k < n
    · obtain ⟨rfl, ha2⟩ := Ha.out (by omega)
      have hc1 := Hcell.out k hkn
      have hx := getD_lt' Hlt.out k
      have HS := Lib.hid (num_take l k (by rw [← HN.out]; exact hkn))
      have hm : Tl.num (l.take k) < 4294967296 := by omega
      clear hnum h4
      generalize l.getD k 0 = x at *
      generalize Tl.num (l.take k) = m at *
      have hor := or_sum m x (by omega) hx
      have HO := Lib.hid hor
      clear hor
      go_wp2
      go_roundw
      case rel => exact ⟨k + 1, by omega, by go_num, by rw [HS.out, ← HO.out], trivial⟩
      case measure => simp [intOf]; omega
    · obtain rfl : k = n := by omega
      have e := Lib.hid (show l.take k = l from List.take_of_length_le (by rw [HN.out]; exact Nat.le_refl _))
      clear hnum h4
      go_wp2
      go_ret
      exact ⟨by rw [e.out]; rfl, rfl⟩
end Go.Proofs.YtagdcjpjbjboeaaGreatDoor
namespace Go.Proofs.YtagdcjpjbjboeaaGreatDoor
open Go.RowKit
/-- What readLength answers. -/
def RdPost (A : Nat → Addr) (v : Value) (l : List Nat) (r : Except Nat (Nat × Nat)) (e : Ending) : Prop :=
  match r with
  | .error k => e = .returned (.tuple #[.int .i64 0, .slice none 0 0, errV A k])
  | .ok (n, k) => k ≤ l.length ∧ ∃ a m c, m + k = l.length ∧ e = .returned (.tuple #[.int .i64 n, .slice a m c, .nilIface]) ∧ (∀ W, Bytes W v l → Bytes W (.slice a m c) (l.drop k)) ∧ Whole0 (.slice a m c)
theorem drew2 (w : World) (m n : Nat) : (w.drewN m).drewN n = w.drewN (m + n) := by
  simp [World.drewN, Nat.add_assoc]
theorem drewE {w : World} {m n : Nat} : ∃ k, (w.drewN m).drewN n = w.drewN k := ⟨_, drew2 w m n⟩
set_option maxRecDepth 100000 in
set_option maxHeartbeats 1000000 in
theorem rdLen_any (A : Nat → Addr) (v : Value) (l : List Nat) (w : World) (hB : Bytes w v l) (h0 : Whole0 v) (hl : l.length ≤ 4611686018427387904) (hE : AllErrs w A) :
    Calls Tryz.prog 170 #[v] w fun e w' => RdPost A v l (Tl.rdLen l) e ∧ ∃ m, w' = w.drewN m := by
  have eS := errs_at hE 2 (by decide)
  have eL := errs_at hE 3 (by decide)
  have eF := errs_at hE 4 (by decide)
  simp only [errVars, List.getD_cons_zero, List.getD_cons_succ, Nat.add_one_sub_one] at eS eL eF
  have HES := Lib.hid eS
  have HEL := Lib.hid eL
  have HEF := Lib.hid eF
  have HR : Hid (∀ r e, Tl.rdLen l = r → RdPost A v l r e → RdPost A v l (Tl.rdLen l) e) := Lib.hid (fun r e h h2 => by rw [h]; exact h2)
  obtain ⟨R, hR⟩ : ∃ R, R = RdPost A v l (Tl.rdLen l) := ⟨_, rfl⟩
  rw [← hR] at HR ⊢
  clear hR eS eL eF
  have hB' := hB
  obtain ⟨hlt, a, sb, so, c, rfl, hc, ha, hcell⟩ := hB'
  match l, hB, h0, hl, hlt, hc, ha, hcell, HR with
  | [], hB, h0, hl, hlt, hc, ha, hcell, HR =>
    have HX := Lib.hid (show Tl.rdLen [] = .error 2 from rfl)
    have eS := HES.out
    clear hB hlt ha hcell
    go_enter Tryz.func170, Tryz.ntmps170
    go_wp2
    go_quiet (fail)
    go_wp2
    go_ret3
    exact ⟨HR.out _ _ HX.out rfl, _, rfl⟩
  | x :: r, hB, h0, hl, hlt, hc, ha, hcell, HR =>
    obtain ⟨n, hn⟩ : ∃ n, n = r.length := ⟨_, rfl⟩
    have HN := Lib.hid hn
    have hlen : (x :: r).length = n + 1 := by rw [hn]; rfl
    rw [hlen] at hB h0 hl hc ha HR ⊢
    obtain ⟨rfl, hsb⟩ := ha (by omega)
    have hx := hlt x (by simp)
    have c0 := hcell 0 (by simp)
    simp only [List.getD_cons_zero, Nat.add_zero] at c0
    have B1 := hB.from 1 (by omega)
    have W1 := h0.from 1
    simp only [List.drop_succ_cons, List.drop_zero, Nat.add_one_sub_one] at B1 W1
    have HB1 := Lib.hid B1
    have HW1 := Lib.hid W1
    have HC0 := Lib.hid c0
    clear hB h0 hlt ha hcell hlen B1 W1 c0 hn
    by_cases h128 : x < 128
    · have HX : Hid (Tl.rdLen (x :: r) = .ok (x, 1)) := Lib.hid (by rw [Tl.rdLen, if_pos h128])
      have c0 := HC0.out
      go_enter Tryz.func170, Tryz.ntmps170
      go_wp2
      go_quiet (fail)
      go_wp2
      go_ret3
      exact ⟨HR.out _ _ HX.out ⟨by simp, _, _, _, by simp [HN.out], rfl, (fun W hW => by simpa using hW.from 1 (by omega)), HW1.out⟩, _, rfl⟩
    · obtain ⟨q, hxq⟩ : ∃ q, x = 128 + q := ⟨x - 128, by omega⟩
      have e128 : (x : Int) - 128 = (q : Int) := by omega
      have HXQ := Lib.hid hxq
      clear hxq
      have c0 := HC0.out
      by_cases hq : q = 0 ∨ 4 < q
      · have HX : Hid (Tl.rdLen (x :: r) = .error 4) := Lib.hid (by rw [Tl.rdLen, if_neg h128, if_pos (by have := HXQ.out; omega)])
        have eF := HEF.out
        rcases hq with rfl | hq
        · go_enter Tryz.func170, Tryz.ntmps170
          go_wp2
          go_quiet (fail)
          go_wp2
          go_quiet (fail)
          go_wp2
          go_ret3
          exact ⟨HR.out _ _ HX.out rfl, drewE⟩
        · have d1 : ((q : Int) == 0) = false := by simp; omega
          go_enter Tryz.func170, Tryz.ntmps170
          go_wp2
          go_quiet (fail)
          go_wp2
          go_quiet (fail)
          go_wp2
          go_ret3
          exact ⟨HR.out _ _ HX.out rfl, drewE⟩
      · have d1 : ((q : Int) == 0) = false := by simp; omega
        by_cases hnq : n < q
        · have HX : Hid (Tl.rdLen (x :: r) = .error 2) := Lib.hid (by rw [Tl.rdLen, if_neg h128, if_neg (by have := HXQ.out; omega), if_pos (by rw [← HN.out]; have := HXQ.out; omega)])
          have eS := HES.out
          go_enter Tryz.func170, Tryz.ntmps170
          go_wp2
          go_quiet (fail)
          go_wp2
          go_quiet (fail)
          go_wp2
          go_ret3
          exact ⟨HR.out _ _ HX.out rfl, drewE⟩
        · obtain ⟨m, hm⟩ : ∃ m, m = Tl.num (r.take q) := ⟨_, rfl⟩
          have hmlt : m < 4294967296 := by
            have h1 := num_lt HB1.out.lt q (by rw [← HN.out]; omega)
            have h4 : 256 ^ q ≤ 4294967296 := Nat.pow_le_pow_right (n := 256) (by decide) (show q ≤ 4 by omega)
            omega
          have HM := Lib.hid hm
          have HMR := Lib.hid (fun w => more_any m hmlt w)
          have hmr4 := Tl.more_le m
          have HX0 : Hid (Tl.rdLen (x :: r) = if Tl.more m ≠ q then .error 4 else if 65530 < m then .error 3 else .ok (m, 1 + q)) := Lib.hid (by
            rw [Tl.rdLen, if_neg h128, if_neg (by have := HXQ.out; omega), if_neg (by rw [← HN.out]; have := HXQ.out; omega), show x - 128 = q by have := HXQ.out; omega, ← hm])
          have hqn : q ≤ n := by omega
          have HNU : Hid (∀ w', w.grownBy w' none → Calls Tryz.prog 206 #[.slice (subA (some ⟨sb, so, none⟩) 1 c) q (c - 1)] w' fun e w'' => e = .returned (.int .i64 (m : Nat)) ∧ w'' = w') := Lib.hid (fun w' hg => by
            have := number_any _ (r.take q) w' ((HB1.out.to q hqn).grown hg) (by rw [List.length_take]; omega)
            rwa [← hm] at this)
          clear hm hmlt
          have hqc : q ≤ c - 1 := by omega
          generalize hmo : Tl.more m = mo at *
          clear hmo
          by_cases hmo : mo = q
          · subst hmo
            by_cases hbig : 65530 < m
            · have HX : Hid (Tl.rdLen (x :: r) = .error 3) := Lib.hid (by rw [HX0.out, if_neg (by simp), if_pos hbig])
              have eL := HEL.out
              go_enter Tryz.func170, Tryz.ntmps170
              go_wp2
              go_quiet (fail)
              go_wp2_with (first
                | (go_at_call 206; refine (HNU.out _ (grown_drewN (grown_refl _ _) _)).mono ?_; rintro e w2 ⟨rfl, rfl⟩)
                | (go_at_call 207; refine (HMR.out _).mono ?_; rintro e w2 ⟨rfl, rfl⟩))
              go_quiet (fail)
              go_wp2
              go_ret3
              exact ⟨HR.out _ _ HX.out rfl, drewE⟩
            · have HX : Hid (Tl.rdLen (x :: r) = .ok (m, 1 + mo)) := Lib.hid (by rw [HX0.out, if_neg (by simp), if_neg hbig])
              go_enter Tryz.func170, Tryz.ntmps170
              go_wp2
              go_quiet (fail)
              go_wp2_with (first
                | (go_at_call 206; refine (HNU.out _ (grown_drewN (grown_refl _ _) _)).mono ?_; rintro e w2 ⟨rfl, rfl⟩)
                | (go_at_call 207; refine (HMR.out _).mono ?_; rintro e w2 ⟨rfl, rfl⟩))
              go_quiet (fail)
              go_wp2
              go_ret3
              refine ⟨HR.out _ _ HX.out ⟨by rw [List.length_cons, ← HN.out]; omega, _, _, _, ?_, rfl, ?_, HW1.out.from mo⟩, drewE⟩
              · rw [List.length_cons, ← HN.out]; omega
              · intro W hW
                have := (hW.from 1 (by omega)).from mo (by omega)
                rwa [List.drop_drop, Nat.add_sub_cancel] at this
          · have HX : Hid (Tl.rdLen (x :: r) = .error 4) := Lib.hid (by rw [HX0.out, if_pos hmo])
            have eF := HEF.out
            have d2 : ((mo : Int) != (q : Int)) = true := by simp; omega
            go_enter Tryz.func170, Tryz.ntmps170
            go_wp2
            go_quiet (fail)
            go_wp2_with (first
              | (go_at_call 206; refine (HNU.out _ (grown_drewN (grown_refl _ _) _)).mono ?_; rintro e w2 ⟨rfl, rfl⟩)
              | (go_at_call 207; refine (HMR.out _).mono ?_; rintro e w2 ⟨rfl, rfl⟩))
            go_quiet (fail)
            go_wp2
            go_ret3
            exact ⟨HR.out _ _ HX.out rfl, drewE⟩
end Go.Proofs.YtagdcjpjbjboeaaGreatDoor
