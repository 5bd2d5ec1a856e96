/- The walks of package oids' Get over all bodies. -/
import Derived.Test.YtpjhkmdlegjdaaaDoorIt9
import Derived.Test.YtpjhkmdlegjdaaaDoorItx
import Derived.Test.YtpjhkmdlegjdaaaDoorOda
import Derived.BigQuiet
namespace Go.Proofs.YtpjhkmdlegjdaaaDoor
open Go.RowKit
attribute [local go_sem] Oper.semAt_some

set_option maxRecDepth 100000 in
theorem isLast_any (x : Nat) (hx : x < 256) (w : World) : Calls Tryd.prog 53 #[.int .u8 (x : Int)] w fun e w' => e = .returned (.bool (decide (x < 128))) ∧ w' = w := by
  have HX : Hid (decide ((x : Int) < 128) = decide (x < 128)) := Lib.hid (by rw [Bool.eq_iff_iff, decide_eq_true_iff, decide_eq_true_iff]; omega)
  go_enter Tryd.func53, Tryd.ntmps53
  go_wp2
  go_ret
  exact ⟨by rw [← HX.out]; rfl, rfl⟩

set_option maxRecDepth 100000 in
set_option maxHeartbeats 1000000 in
/-- slices.IndexFunc over isLast: where the first number's last byte stands. -/
theorem idxFunc_any (v : Value) (b : List Nat) (k : Nat) (w : World) (hB : Bytes w v b) (hk : k < b.length) (hlo : ∀ j, j < k → ¬ b.getD j 0 < 128) (hhi : b.getD k 0 < 128) (hl : b.length ≤ 1099511620000) :
    Calls Tryd.prog 52 #[v, .func (.func 53) #[] #[]] w fun e w' => e = .returned (.int .i64 k) ∧ w' = w := by
  obtain ⟨hb256, a, sb, so, c, rfl, hc, ha, hcell⟩ := hB
  obtain ⟨rfl, hsb⟩ := ha (by omega)
  have HC := Lib.hid hcell
  have HLo := Lib.hid hlo
  have HL := Lib.hid (fun x hx W => isLast_any x hx W)
  have HB : Hid (∀ j, b.getD j 0 < 256) := Lib.hid (fun j => by
    rw [List.getD_eq_getElem?_getD]
    cases hq : b[j]? with
    | none => simp
    | some z => exact hb256 z (List.mem_of_getElem? hq))
  obtain ⟨n, hn⟩ : ∃ n, n = b.length := ⟨_, rfl⟩
  rw [← hn] at HC hk hl hc ⊢
  clear hcell hlo hn ha hb256
  go_enter Tryd.func52, Tryd.ntmps52
  go_wp2
  go_loopw [8] (fun i wr => ∃ j : Nat, j ≤ k ∧ i = .int .i64 j ∧ wr = w) (fun i _ => n - (intOf i).toNat)
  case atStart => exact ⟨0, by omega, rfl, rfl⟩
  case round =>
    obtain ⟨j, hj, rfl, rfl⟩ := hrel
    have f1 := HC.out j (by omega)
    have hx := HB.out j
    by_cases hjk : j = k
    · subst hjk
      generalize b.getD j 0 = x at *
      have HLx := Lib.hid (HL.out x hx)
      have hd : decide (x < 128) = true := decide_eq_true hhi
      rw [hd] at HLx
      go_wp2_with (go_at_call 53; refine (HLx.out _).mono ?_; rintro e w1 ⟨rfl, rfl⟩)
      go_ret
      exact ⟨rfl, rfl⟩
    · have hlo := HLo.out j (by omega)
      generalize b.getD j 0 = x at *
      have HLx := Lib.hid (HL.out x hx)
      have hd : decide (x < 128) = false := decide_eq_false hlo
      rw [hd] at HLx
      go_wp2_with (go_at_call 53; refine (HLx.out _).mono ?_; rintro e w1 ⟨rfl, rfl⟩)
      go_roundw
      case rel => exact ⟨j + 1, by omega, by go_num, trivial⟩
      case measure => simp [intOf]; omega

theorem or_low7 (s y : Nat) (hs : s ≤ 2147483800) (hy : y < 128) : bits .or .i64 ((s : Int) * 128) (y : Int) = ((s * 128 + y : Nat) : Int) := by
  have hx : s * 128 ||| y = s * 128 + y := by
    have := Nat.two_pow_add_eq_or_of_lt (i := 7) (show y < 2 ^ 7 by omega) s
    rw [Nat.mul_comm]
    exact this.symm
  have e1 : (BitVec.ofInt 64 (((s * 128 : Nat) : Int))).toNat = s * 128 := by
    rw [BitVec.ofInt_natCast, BitVec.toNat_ofNat]; exact Nat.mod_eq_of_lt (by omega)
  have e2 : (BitVec.ofInt 64 (y : Int)).toNat = y := by
    rw [BitVec.ofInt_natCast, BitVec.toNat_ofNat]; exact Nat.mod_eq_of_lt (by omega)
  have e3 : (s : Int) * 128 = ((s * 128 : Nat) : Int) := by omega
  rw [e3]
  show IntKind.i64.wrap ((BitVec.ofInt 64 (((s * 128 : Nat) : Int)) ||| BitVec.ofInt 64 (y : Int)).toNat : Int) = _
  rw [BitVec.toNat_or, e1, e2, hx]
  simp only [IntKind.wrap, IntKind.bits, IntKind.signed]
  simp
  omega
theorem not128x (x : Nat) (hx : x < 256) : bits BinOp.andNot IntKind.u8 (x : Int) 128 = ((x % 128 : Nat) : Int) := not128 ⟨x, hx⟩
theorem svalF_le : ∀ (m : List Nat) (a : Nat), a ≤ m.foldl (fun a c => a * 128 + c % 128) a
  | [], a => Nat.le_refl _
  | c :: r, a => by
    rw [List.foldl_cons]
    exact Nat.le_trans (by omega) (svalF_le r _)
theorem sval_take (l : List Nat) (k : Nat) : Od.sval (l.take k) ≤ Od.sval l := by
  conv => rhs; rw [← List.take_append_drop k l]
  rw [Od.sval, Od.sval, List.foldl_append]
  exact svalF_le _ _
theorem sval_step (l : List Nat) (k : Nat) (hk : k < l.length) : Od.sval (l.take (k + 1)) = Od.sval (l.take k) * 128 + l.getD k 0 % 128 := by
  rw [List.take_add_one, List.getElem?_eq_getElem hk, List.getD_eq_getElem?_getD, List.getElem?_eq_getElem hk]
  exact Od.sval_snoc _ _


set_option maxRecDepth 100000 in
set_option maxHeartbeats 1000000 in
/-- slices.IndexFunc over isLast: no byte is a number's last one. -/
theorem idxNone_any (v : Value) (b : List Nat) (w : World) (hB : Bytes w v b) (hlo : ∀ j, j < b.length → ¬ b.getD j 0 < 128) (hl : b.length ≤ 1099511620000) :
    Calls Tryd.prog 52 #[v, .func (.func 53) #[] #[]] w fun e w' => e = .returned (.int .i64 (-1)) ∧ w' = w := by
  obtain ⟨hb256, a, sb, so, c, rfl, hc, ha, hcell⟩ := hB
  have HC := Lib.hid hcell
  have HA : Hid (0 < b.length → a = some ⟨sb, so, none⟩) := Lib.hid (fun h => (ha h).1)
  have HLo := Lib.hid hlo
  have HL := Lib.hid (fun x hx W => isLast_any x hx W)
  have HB : Hid (∀ j, b.getD j 0 < 256) := Lib.hid (fun j => by
    rw [List.getD_eq_getElem?_getD]
    cases hq : b[j]? with
    | none => simp
    | some z => exact hb256 z (List.mem_of_getElem? hq))
  obtain ⟨n, hn⟩ : ∃ n, n = b.length := ⟨_, rfl⟩
  rw [← hn] at HC hl hc HLo HA ⊢
  clear hcell hlo hn ha hb256
  go_enter Tryd.func52, Tryd.ntmps52
  go_wp2
  go_loopw [8] (fun i wr => ∃ j : Nat, j ≤ n ∧ i = .int .i64 j ∧ wr = w) (fun i _ => n - (intOf i).toNat)
  case atStart => exact ⟨0, by omega, rfl, rfl⟩
  case round =>
    obtain ⟨j, hj, rfl, rfl⟩ := hrel
    by_cases hjk : j < n
    · have hlo := HLo.out j hjk
      have f1 := HC.out j hjk
      have hx := HB.out j
      have hae := HA.out (by omega)
      subst hae
      generalize b.getD j 0 = x at *
      have HLx := Lib.hid (HL.out x hx)
      have hd : decide (x < 128) = false := decide_eq_false hlo
      rw [hd] at HLx
      go_wp2_with (go_at_call 53; refine (HLx.out _).mono ?_; rintro e w1 ⟨rfl, rfl⟩)
      go_roundw
      case rel => exact ⟨j + 1, by omega, by go_num, trivial⟩
      case measure => simp [intOf]; omega
    · obtain rfl : j = n := by omega
      go_wp2
      go_ret
      exact ⟨rfl, rfl⟩

set_option maxRecDepth 100000 in
/-- How many bytes the first number has. -/
theorem firstSize_any (v : Value) (b : List Nat) (w : World) (hB : Bytes w v b) (h0 : 0 < b.length) (hl : b.length ≤ 100000) :
    Calls Tryd.prog 43 #[v] w fun e w' => e = .returned (.int .i64 (Od.fst b : Nat)) ∧ w' = w := by
  obtain ⟨h1, h2, h3, h4⟩ := Od.fst_facts h0
  obtain ⟨a, c, hv⟩ : ∃ a c, v = .slice a b.length c := by
    obtain ⟨_, a, _, _, c, rfl, _⟩ := hB
    exact ⟨a, c, rfl⟩
  subst hv
  rcases h4 with ⟨h4, _⟩ | ⟨_, _, h5, h6⟩
  · have HI := Lib.hid (idxFunc_any _ b (Od.fst b - 1) w hB (by omega) (fun j hj => h3 j (by omega)) h4 (by omega))
    obtain ⟨k, hk⟩ : ∃ k, Od.fst b = k + 1 := ⟨Od.fst b - 1, by omega⟩
    rw [hk] at HI ⊢
    rw [Nat.add_sub_cancel] at HI
    obtain ⟨n, hn⟩ : ∃ n, n = b.length := ⟨_, rfl⟩
    rw [← hn] at HI hl ⊢
    have hkl : k < 100000 := by omega
    clear h1 h2 h3 h4 hk hB hn
    go_enter Tryd.func43, Tryd.ntmps43
    go_wp2_with (go_at_call 52; refine HI.out.mono ?_; rintro e w1 ⟨rfl, rfl⟩)
    go_ret
    exact ⟨by go_num, rfl⟩
  · have HI := Lib.hid (idxNone_any _ b w hB h6 (by omega))
    rw [h5]
    obtain ⟨n, hn⟩ : ∃ n, n = b.length := ⟨_, rfl⟩
    rw [← hn] at HI ⊢
    clear h1 h2 h3 h5 h6 hB hn
    go_enter Tryd.func43, Tryd.ntmps43
    go_wp2_with (go_at_call 52; refine HI.out.mono ?_; rintro e w1 ⟨rfl, rfl⟩)
    go_ret
    exact ⟨rfl, rfl⟩

/-- The three errors of a body's numbers. -/
structure SFErrs (w : World) (A : Nat → Addr) : Prop where
  rf : RFErrs w A
  short : w.cell? ⟨1, 0, none⟩ = some (errV A 2)
theorem SFErrs.grown {w w' : World} {A : Nat → Addr} (h : SFErrs w A) (hg : w.grownBy w' none) : SFErrs w' A :=
  ⟨h.rf.grown hg, (World.cell?_of_block (hg.block _ (World.block_lt_of_cell? w _ h.short) (by simp))).trans h.short⟩
theorem AllErrs.sf {w : World} {A : Nat → Addr} (h : AllErrs w A) : SFErrs w A := ⟨h.rf, err_short h⟩

set_option maxRecDepth 100000 in
set_option maxHeartbeats 2000000 in
theorem oNumBytes_any (A : Nat → Addr) (v : Value) (b : List Nat) (most : Nat) (w : World) (hE : SFErrs w A) (hB : Bytes w v b) (h0 : 0 < b.length) (hl : b.length ≤ 100000) (hm2 : most ≤ 2147483800) :
    Calls Tryd.prog 44 #[v, .int .i64 (most : Int)] w fun e w' => e = .returned (.tuple (encN A (Od.numB most b))) ∧ w.grownBy w' none := by
  obtain ⟨hb256, a, sb, so, c, rfl, hc, ha, hcell⟩ := hB
  obtain ⟨rfl, hsb⟩ := ha h0
  have HC := Lib.hid hcell
  have HB : Hid (∀ j, b.getD j 0 < 256) := Lib.hid (fun j => by
    rw [List.getD_eq_getElem?_getD]
    cases hq : b[j]? with
    | none => simp
    | some z => exact hb256 z (List.mem_of_getElem? hq))
  have HT := Lib.hid (fun k => sval_take b k)
  have HS := Lib.hid (fun k hk => sval_step b k hk)
  have HE : Hid (Od.sval (b.take b.length) = Od.sval b) := Lib.hid (by rw [List.take_length])
  have c0 := hcell 0 h0
  rw [Nat.add_zero] at c0
  obtain ⟨m, hm⟩ : ∃ m, b.length = m + 1 := ⟨b.length - 1, by omega⟩
  have cl := hcell m (by omega)
  have hb0 := HB.out 0
  have hbl := HB.out m
  have HIl := Lib.hid (isLast_any (b.getD m 0) hbl)
  have eS := hE.short
  have eR := hE.rf.range
  have eF := hE.rf.form
  unfold Od.numB
  rw [hm, Nat.add_sub_cancel]
  rw [hm] at HC HS HE hc hl h0
  have HR0 : Hid (Od.sval b = Od.sval b) := Lib.hid rfl
  by_cases hlast : b.getD m 0 < 128
  · rw [if_neg (fun h => h hlast)]
    rw [decide_eq_true hlast] at HIl
    by_cases h128 : b.getD 0 0 = 128
    · rw [if_pos h128]
      rw [h128] at c0
      have hx : ((128 : Nat) : Int) = 128 := rfl
      rw [hx] at c0
      generalize b.getD m 0 = z at *
      clear HC HB HT HS HE hcell hE ha hb256 hm eS eR hlast h128 hx hb0
      unfold encN
      go_enter Tryd.func44, Tryd.ntmps44
      go_wp2_with (go_at_call 53; refine (HIl.out _).mono ?_; rintro e w1 ⟨rfl, hw1⟩; have hw2 := hw1.symm; subst hw2; clear hw1)
      go_quiet (fail)
      go_wp2
      go_ret2
      exact ⟨rfl, grown_drewN (grown_refl _ _) _⟩
    · rw [if_neg h128]
      have hne : ((b.getD 0 0 : Nat) : Int) ≠ 128 := by omega
      have hbn : (((b.getD 0 0 : Nat) : Int) == 128) = false := beq_eq_false_iff_ne.2 hne
      have HRes : Hid (∃ R, R = Od.sval b) := Lib.hid ⟨_, rfl⟩
      obtain ⟨R, hR⟩ := HRes.out
      rw [← hR] at HT HE ⊢
      obtain ⟨X, hX⟩ : ∃ X, X = encN A (if most < R then Except.error 1 else .ok ((R : Nat) : Int)) := ⟨_, rfl⟩
      rw [← hX]
      have HX1 : Hid (most < R → X = #[.int .i64 0, errV A 1]) := Lib.hid (fun h => by rw [hX, if_pos h]; rfl)
      have HX2 : Hid (R ≤ most → X = #[.int .i64 (R : Nat), .nilIface]) := Lib.hid (fun h => by rw [hX, if_neg (by omega)]; rfl)
      generalize b.getD m 0 = z at *
      generalize b.getD 0 0 = b0 at *
      clear hcell hE ha hb256 eS eF hlast h128 hne hb0 hR hX HRes HR0
      obtain ⟨n, hn⟩ : ∃ n, n = m + 1 := ⟨_, rfl⟩
      have HIn := Lib.hid hn
      go_enter Tryd.func44, Tryd.ntmps44
      go_wp2_with (go_at_call 53; refine (HIl.out _).mono ?_; rintro e w1 ⟨rfl, hw1⟩; have hw2 := hw1.symm; subst hw2; clear hw1)
      clear hbn c0 cl hn
      go_loopw [6, 25] (fun x i wr => ∃ j : Nat, j ≤ m + 1 ∧ i = .int .i64 j ∧ x = .int .i64 (Od.sval (b.take j) : Nat) ∧ Od.sval (b.take j) ≤ most ∧ wr = w) (fun _ i _ => m + 1 - (intOf i).toNat)
      case atStart => exact ⟨0, by omega, rfl, rfl, by simp [Od.sval], rfl⟩
      case round =>
        obtain ⟨j, hj, rfl, rfl, hle, rfl⟩ := hrel
        by_cases hjn : j < m + 1
        · have f1 := HC.out j hjn
          have hx := HB.out j
          have hst := HS.out j hjn
          have ht1 := HT.out (j + 1)
          generalize b.getD j 0 = x at *
          generalize Od.sval (b.take j) = s0 at *
          generalize hs1 : Od.sval (b.take (j + 1)) = s1 at *
          have HR1 : Hid (Value.int IntKind.i64 ((s1 : Nat) : Int) = .int .i64 ((Od.sval (b.take (j + 1)) : Nat) : Int) ∧ Od.sval (b.take (j + 1)) = s1) := Lib.hid ⟨by rw [hs1], hs1⟩
          clear hs1
          obtain ⟨y, hy⟩ : ∃ y, y = x % 128 := ⟨_, rfl⟩
          have hy128 : y < 128 := by rw [hy]; exact Nat.mod_lt _ (by decide)
          have k1 := not128x x hx
          have k2 := or_low7 s0 y (by omega) hy128
          rw [← hy] at k1 hst
          rw [← hst] at k2
          have HS1 := Lib.hid hst
          clear hst hy
          by_cases hms : most < s1
          · have k3 : most < s1 := hms
            have HX3 := Lib.hid (HX1.out (by omega))
            clear ht1 hms
            go_wp2
            go_quiet (fail)
            go_wp2
            go_ret2
            exact ⟨by rw [HX3.out]; rfl, grown_drewN (grown_refl _ _) _⟩
          · have k3 : ¬ most < s1 := hms
            have HLe : Hid (s1 ≤ most) := Lib.hid (by omega)
            clear ht1 hms
            go_wp2
            go_roundw
            case rel => exact ⟨j + 1, by omega, by go_num, HR1.out.1, by rw [HR1.out.2]; exact HLe.out, trivial⟩
            case measure => simp [intOf]; omega
        · obtain rfl : j = m + 1 := by omega
          rw [HE.out] at hle ⊢
          have HX3 := Lib.hid (HX2.out hle)
          go_wp2
          go_ret2
          exact ⟨by rw [HX3.out]; rfl, grown_refl _ _⟩
  · rw [if_pos hlast]
    rw [decide_eq_false hlast] at HIl
    generalize b.getD m 0 = z at *
    clear HC HB HT HS HE hcell hE ha hb256 hm eF eR hlast hb0 c0
    unfold encN
    go_enter Tryd.func44, Tryd.ntmps44
    go_wp2_with (go_at_call 53; refine (HIl.out _).mono ?_; rintro e w1 ⟨rfl, hw1⟩; have hw2 := hw1.symm; subst hw2; clear hw1)
    go_quiet (fail)
    go_wp2
    go_ret2
    exact ⟨rfl, grown_drewN (grown_refl _ _) _⟩

/-- What a round finds: its number's bytes, what they say, what is left. -/
structure OnePiece (A : Nat → Addr) (w wr : World) (a : Option Addr) (n c most : Nat) (k : Nat) (q t : List Nat) : Prop where
  len : n = k + 1 + t.length
  idx : Calls Tryd.prog 43 #[.slice a n c] wr fun e w' => e = .returned (.int .i64 ((k + 1 : Nat) : Int)) ∧ w' = wr
  val : Calls Tryd.prog 44 #[.slice a (k + 1) c, .int .i64 (most : Int)] wr fun e w' => e = .returned (.tuple (encN A (Od.numB most q))) ∧ wr.grownBy w' none
  rest : Bytes w (.slice (subA a (k + 1) c) (n - (k + 1)) (c - (k + 1))) t
theorem one_piece {A : Nat → Addr} {w wr : World} {a : Option Addr} {n c most x : Nat} {xs : List Nat} (hE : SFErrs w A) (hb : Bytes w (.slice a n c) (x :: xs)) (hw : w.grownBy wr none) (hn : n ≤ 100000) (hm : most ≤ 2147483800) :
    ∃ k q t, OnePiece A w wr a n c most k q t ∧ ∀ f, Od.seqs (f + 1) most (x :: xs) = Od.numB most q :: Od.seqs f 2147483647 t := by
  obtain ⟨h1, h2, h3, h4⟩ := Od.fst_facts (l := x :: xs) (by simp)
  obtain ⟨k, hk⟩ : ∃ k, Od.fst (x :: xs) = k + 1 := ⟨Od.fst (x :: xs) - 1, by omega⟩
  have hbl : n = (x :: xs).length := (hb.cap).1
  have hbr := hb.grown hw
  refine ⟨k, (x :: xs).take (k + 1), (x :: xs).drop (k + 1), ⟨?_, ?_, ?_, ?_⟩, fun f => by rw [Od.seqs, hk]⟩
  · rw [List.length_drop]; omega
  · have := firstSize_any _ _ wr hbr (by simp) (by omega)
    rw [hk] at this
    exact this
  · exact oNumBytes_any A _ _ most wr (hE.grown hw) (Bytes.to hbr (k + 1) (by omega)) (by rw [List.length_take]; omega) (by rw [List.length_take]; omega) hm
  · exact Bytes.from hb (k + 1) (by omega)
theorem num_facts (k n t : Nat) (hk : n = k + 1 + t) (hn : n ≤ 100000) : n - (k + 1) = t ∧ ((k + 1 : Nat) : Int).toNat = k + 1 ∧ k + 1 ≤ n ∧ 0 < n ∧ t < n := by
  refine ⟨by omega, by omega, by omega, by omega, by omega⟩
end Go.Proofs.YtpjhkmdlegjdaaaDoor
