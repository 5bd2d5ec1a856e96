/- The walks of package oids' Get over right bodies. -/
import Derived.Test.YtflelmbkndmcgaaDoorIt9
import Derived.Test.YtflelmbkndmcgaaDoorItx
namespace Go.Proofs.YtflelmbkndmcgaaDoor
open Go.RowKit
attribute [local go_sem] Oper.semAt_some

set_option maxRecDepth 100000 in
theorem isLast_any (x : Nat) (hx : x < 256) (w : World) : Calls Tryd.prog 29 #[.int .u8 (x : Int)] w fun e w' => e = .returned (.bool (decide (x < 128))) ∧ w' = w := by
  have HX : Hid (decide ((x : Int) < 128) = decide (x < 128)) := Lib.hid (by rw [Bool.eq_iff_iff, decide_eq_true_iff, decide_eq_true_iff]; omega)
  go_enter Tryd.func29, Tryd.ntmps29
  go_wp2
  go_ret
  exact ⟨by rw [← HX.out]; rfl, rfl⟩

theorem piece_parts : ∀ (l : List Nat) {p t : List Nat}, Od.piece l = some (p, t) → ∃ h d, p = h ++ [d] ∧ l = p ++ t ∧ (∀ c ∈ h, ¬ c < 128) ∧ d < 128
  | [], p, t, h => by cases h
  | c :: r, p, t, h => by
    rw [Od.piece] at h
    split at h
    · rename_i hc
      cases h
      exact ⟨[], c, rfl, rfl, by simp, hc⟩
    · rename_i hc
      split at h
      · cases h
      · rename_i p' t' hp
        cases h
        obtain ⟨h', d, rfl, rfl, h3, h4⟩ := piece_parts r hp
        refine ⟨c :: h', d, rfl, rfl, fun x hx => ?_, h4⟩
        rcases List.mem_cons.1 hx with e | e
        · rw [e]; exact hc
        · exact h3 x e

set_option maxRecDepth 100000 in
set_option maxHeartbeats 1000000 in
/-- slices.IndexFunc over isLast: where the first number's last byte stands. -/
theorem idxFunc_any (v : Value) (b : List Nat) (k : Nat) (w : World) (hB : Bytes w v b) (hk : k < b.length) (hlo : ∀ j, j < k → ¬ b.getD j 0 < 128) (hhi : b.getD k 0 < 128) (hl : b.length ≤ 1099511620000) :
    Calls Tryd.prog 44 #[v, .func (.func 29) #[] #[]] w fun e w' => e = .returned (.int .i64 k) ∧ w' = w := by
  obtain ⟨hb256, a, sb, so, c, rfl, hc, ha, hcell⟩ := hB
  obtain ⟨rfl, hsb⟩ := ha (by omega)
  have HC := Lib.hid hcell
  have HLo := Lib.hid hlo
  have HL := Lib.hid (fun x hx W => isLast_any x hx W)
  have HB : Hid (∀ j, b.getD j 0 < 256) := Lib.hid (fun j => by
    rw [List.getD_eq_getElem?_getD]
    cases hq : b[j]? with
    | none => simp
    | some z => exact hb256 z (List.mem_of_getElem? hq))
  obtain ⟨n, hn⟩ : ∃ n, n = b.length := ⟨_, rfl⟩
  rw [← hn] at HC hk hl hc ⊢
  clear hcell hlo hn ha hb256
  go_enter Tryd.func44, Tryd.ntmps44
  go_wp2
  go_loopw [8] (fun i wr => ∃ j : Nat, j ≤ k ∧ i = .int .i64 j ∧ wr = w) (fun i _ => n - (intOf i).toNat)
  case atStart => exact ⟨0, by omega, rfl, rfl⟩
  case round =>
    obtain ⟨j, hj, rfl, rfl⟩ := hrel
    have f1 := HC.out j (by omega)
    have hx := HB.out j
    by_cases hjk : j = k
    · subst hjk
      generalize b.getD j 0 = x at *
      have HLx := Lib.hid (HL.out x hx)
      have hd : decide (x < 128) = true := decide_eq_true hhi
      rw [hd] at HLx
      go_wp2_with (go_at_call 29; refine (HLx.out _).mono ?_; rintro e w1 ⟨rfl, rfl⟩)
      go_ret
      exact ⟨rfl, rfl⟩
    · have hlo := HLo.out j (by omega)
      generalize b.getD j 0 = x at *
      have HLx := Lib.hid (HL.out x hx)
      have hd : decide (x < 128) = false := decide_eq_false hlo
      rw [hd] at HLx
      go_wp2_with (go_at_call 29; refine (HLx.out _).mono ?_; rintro e w1 ⟨rfl, rfl⟩)
      go_roundw
      case rel => exact ⟨j + 1, by omega, by go_num, trivial⟩
      case measure => simp [intOf]; omega

theorem or_low (s y : Nat) (hs : s ≤ 2147483800) (hy : y < 128) : bits .or .i64 ((s : Int) * 128) (y : Int) = ((s * 128 + y : Nat) : Int) := by
  have hx : s * 128 ||| y = s * 128 + y := by
    have := Nat.two_pow_add_eq_or_of_lt (i := 7) (show y < 2 ^ 7 by omega) s
    rw [Nat.mul_comm]
    exact this.symm
  have e1 : (BitVec.ofInt 64 (((s * 128 : Nat) : Int))).toNat = s * 128 := by
    rw [BitVec.ofInt_natCast, BitVec.toNat_ofNat]; exact Nat.mod_eq_of_lt (by omega)
  have e2 : (BitVec.ofInt 64 (y : Int)).toNat = y := by
    rw [BitVec.ofInt_natCast, BitVec.toNat_ofNat]; exact Nat.mod_eq_of_lt (by omega)
  have e3 : (s : Int) * 128 = ((s * 128 : Nat) : Int) := by omega
  rw [e3]
  show IntKind.i64.wrap ((BitVec.ofInt 64 (((s * 128 : Nat) : Int)) ||| BitVec.ofInt 64 (y : Int)).toNat : Int) = _
  rw [BitVec.toNat_or, e1, e2, hx]
  simp only [IntKind.wrap, IntKind.bits, IntKind.signed]
  simp
  omega
theorem not128x (x : Nat) (hx : x < 256) : bits BinOp.andNot IntKind.u8 (x : Int) 128 = ((x % 128 : Nat) : Int) := not128 ⟨x, hx⟩
theorem svalF_le : ∀ (m : List Nat) (a : Nat), a ≤ m.foldl (fun a c => a * 128 + c % 128) a
  | [], a => Nat.le_refl _
  | c :: r, a => by
    rw [List.foldl_cons]
    exact Nat.le_trans (by omega) (svalF_le r _)
theorem sval_take (l : List Nat) (k : Nat) : Od.sval (l.take k) ≤ Od.sval l := by
  conv => rhs; rw [← List.take_append_drop k l]
  rw [Od.sval, Od.sval, List.foldl_append]
  exact svalF_le _ _
theorem sval_step (l : List Nat) (k : Nat) (hk : k < l.length) : Od.sval (l.take (k + 1)) = Od.sval (l.take k) * 128 + l.getD k 0 % 128 := by
  rw [List.take_add_one, List.getElem?_eq_getElem hk, List.getD_eq_getElem?_getD, List.getElem?_eq_getElem hk]
  exact Od.sval_snoc _ _

set_option maxRecDepth 100000 in
set_option maxHeartbeats 1000000 in
theorem numBytes_any (v : Value) (b : List Nat) (most : Nat) (w : World) (hB : Bytes w v b) (h0 : 0 < b.length) (hl : b.length ≤ 1099511620000) (h128 : b.getD 0 0 ≠ 128) (hm : Od.sval b ≤ most) (hm2 : most ≤ 2147483800) :
    Calls Tryd.prog 45 #[v, .int .i64 (most : Int)] w fun e w' => e = .returned (.tuple #[.int .i64 (Od.sval b : Nat), .nilIface]) ∧ w' = w := by
  obtain ⟨hb256, a, sb, so, c, rfl, hc, ha, hcell⟩ := hB
  obtain ⟨rfl, hsb⟩ := ha h0
  have HC := Lib.hid hcell
  have HB : Hid (∀ j, b.getD j 0 < 256) := Lib.hid (fun j => by
    rw [List.getD_eq_getElem?_getD]
    cases hq : b[j]? with
    | none => simp
    | some z => exact hb256 z (List.mem_of_getElem? hq))
  have HT := Lib.hid (fun k => Nat.le_trans (sval_take b k) hm)
  have HS := Lib.hid (fun k hk => sval_step b k hk)
  have HE : Hid (Od.sval (b.take b.length) = Od.sval b) := Lib.hid (by rw [List.take_length])
  have c0 := hcell 0 h0
  have hne : ((b.getD 0 0 : Nat) : Int) ≠ 128 := by omega
  have hb0 : (((b.getD 0 0 : Nat) : Int) == 128) = false := beq_eq_false_iff_ne.2 hne
  rw [Nat.add_zero] at c0
  obtain ⟨n, hn⟩ : ∃ n, n = b.length := ⟨_, rfl⟩
  rw [← hn] at HC h0 hl hc HS HE ⊢
  generalize Od.sval b = R at *
  generalize b.getD 0 0 = b0 at *
  clear hcell hn ha hb256 h128 hne hm
  go_enter Tryd.func45, Tryd.ntmps45
  go_wp2
  clear hb0 c0
  go_loopw [6, 16] (fun x i wr => ∃ j : Nat, j ≤ n ∧ i = .int .i64 j ∧ x = .int .i64 (Od.sval (b.take j) : Nat) ∧ wr = w) (fun _ i _ => n - (intOf i).toNat)
  case atStart => exact ⟨0, by omega, rfl, rfl, rfl⟩
  case round =>
    obtain ⟨j, hj, rfl, rfl, rfl⟩ := hrel
    by_cases hjn : j < n
    · have f1 := HC.out j hjn
      have hx := HB.out j
      have hst := HS.out j hjn
      have ht1 := HT.out (j + 1)
      have ht0 := HT.out j
      generalize b.getD j 0 = x at *
      generalize Od.sval (b.take j) = s0 at *
      generalize hs1 : Od.sval (b.take (j + 1)) = s1 at *
      have HR1 : Hid (Value.int IntKind.i64 ((s1 : Nat) : Int) = .int .i64 ((Od.sval (b.take (j + 1)) : Nat) : Int)) := Lib.hid (by rw [hs1])
      clear hs1
      obtain ⟨y, hy⟩ : ∃ y, y = x % 128 := ⟨_, rfl⟩
      have hy128 : y < 128 := by rw [hy]; exact Nat.mod_lt _ (by decide)
      have k1 := not128x x hx
      have k2 := or_low s0 y (by omega) hy128
      rw [← hy] at k1 hst
      rw [← hst] at k2
      have k3 : ¬ most < s1 := by omega
      have HS1 := Lib.hid hst
      clear hst hy
      go_wp2
      go_roundw
      case rel => exact ⟨j + 1, by omega, by go_num, HR1.out, trivial⟩
      case measure => simp [intOf]; omega
    · obtain rfl : j = n := by omega
      go_wp2
      go_ret2
      exact ⟨by rw [HE.out]; rfl, rfl⟩

theorem nums_step {f most c : Nat} {l ns : List Nat} (h : Od.nums f most (c :: l) = .ok ns) :
    ∃ f' p t r, Od.piece (c :: l) = some (p, t) ∧ p.head? ≠ some 128 ∧ Od.sval p ≤ most ∧ Od.nums f' 2147483647 t = .ok r ∧ ns = Od.sval p :: r := by
  cases f with
  | zero => rw [Od.nums] at h; cases h
  | succ f =>
    rw [Od.nums] at h
    cases hp : Od.piece (c :: l) with
    | none => rw [hp] at h; cases h
    | some q =>
      obtain ⟨p, t⟩ := q
      rw [hp] at h
      simp only [] at h
      split at h
      · cases h
      · rename_i h1
        split at h
        · cases h
        · rename_i h2
          cases hr : Od.nums f 2147483647 t with
          | error k => rw [hr] at h; cases h
          | ok r =>
            rw [hr] at h
            cases h
            exact ⟨f, p, t, r, rfl, h1, by omega, hr, rfl⟩
theorem nums_nil {f most : Nat} {ns : List Nat} (h : Od.nums f most [] = .ok ns) : ns = [] := by
  cases f <;> (rw [Od.nums] at h; cases h; rfl)
theorem piece_facts {l p t : List Nat} (hp : Od.piece l = some (p, t)) (h128 : p.head? ≠ some 128) : ∃ k, p.length = k + 1 ∧ l.length = k + 1 + t.length ∧ l.drop (k + 1) = t ∧ l.take (k + 1) = p ∧ (∀ j, j < k → ¬ l.getD j 0 < 128) ∧ l.getD k 0 < 128 ∧ p.getD 0 0 ≠ 128 := by
  obtain ⟨h, d, hpe, hre, hlo, hhi⟩ := piece_parts _ hp
  have hpl : p.length = h.length + 1 := by rw [hpe, List.length_append]; rfl
  refine ⟨h.length, hpl, by rw [hre, List.length_append, hpl], by rw [hre, ← hpl, List.drop_left], by rw [hre, ← hpl, List.take_left], fun j hj => ?_, ?_, fun e => ?_⟩
  · have e : l.getD j 0 = h.getD j 0 := by
      rw [hre, hpe, List.getD_eq_getElem?_getD, List.getElem?_append_left (by rw [List.length_append]; omega), List.getElem?_append_left hj, List.getD_eq_getElem?_getD]
    rw [e, List.getD_eq_getElem?_getD, List.getElem?_eq_getElem hj]
    exact hlo _ (List.getElem_mem hj)
  · have e : l.getD h.length 0 = d := by
      rw [hre, hpe, List.getD_eq_getElem?_getD, List.getElem?_append_left (by rw [List.length_append]; simp), List.getElem?_append_right (Nat.le_refl _)]
      simp
    rw [e]; exact hhi
  · apply h128
    cases hpp : p with
    | nil => rw [hpp] at hpl; simp at hpl
    | cons y ys => rw [hpp] at e; simpa using e
theorem num_facts (k n t : Nat) (hk : n = k + 1 + t) (hn : n ≤ 100000) : n - (k + 1) = t ∧ wrap64 ((k : Int) + 1) = (k : Int) + 1 ∧ ((k : Int) + 1).toNat = k + 1 ∧ k + 1 ≤ n ∧ 0 < n ∧ t < n := by
  refine ⟨by omega, by unfold wrap64; omega, by omega, by omega, by omega, by omega⟩
/-- What a round finds: its number's place, the number. -/
structure OnePiece (w wr : World) (a : Option Addr) (n c most : Nat) (k m : Nat) (t : List Nat) : Prop where
  len : n = k + 1 + t.length
  num : m ≤ most
  idx : Calls Tryd.prog 44 #[.slice a n c, .func (.func 29) #[] #[]] wr fun e w' => e = .returned (.int .i64 k) ∧ w' = wr
  val : Calls Tryd.prog 45 #[.slice a (k + 1) c, .int .i64 (most : Int)] wr fun e w' => e = .returned (.tuple #[.int .i64 (m : Nat), .nilIface]) ∧ w' = wr
  rest : Bytes w (.slice (subA a (k + 1) c) (n - (k + 1)) (c - (k + 1))) t
theorem one_piece {w wr : World} {a : Option Addr} {n c most f x : Nat} {xs qs : List Nat} (hb : Bytes w (.slice a n c) (x :: xs)) (hw : w.grownBy wr none) (hn : n ≤ 100000) (hq : Od.nums f most (x :: xs) = .ok qs) (hm : most ≤ 2147483800) :
    ∃ k m t r, OnePiece w wr a n c most k m t ∧ qs = m :: r ∧ ∃ f', Od.nums f' 2147483647 t = .ok r := by
  obtain ⟨f', p, t, r, hp, h128, hsv, hr, hqq⟩ := nums_step hq
  obtain ⟨k, h1, h2, h3, h4, h5, h6, h7⟩ := piece_facts hp h128
  have hbl : n = (x :: xs).length := (hb.cap).1
  have hbr := hb.grown hw
  have hge : n = k + 1 + t.length := by rw [hbl, h2]
  refine ⟨k, Od.sval p, t, r, ⟨hge, hsv, ?_, ?_, ?_⟩, hqq, f', hr⟩
  · exact idxFunc_any _ _ k wr hbr (by rw [h2]; omega) h5 h6 (by omega)
  · have hto := Bytes.to hbr (k + 1) (by omega)
    rw [h4] at hto
    exact numBytes_any _ p most wr hto (by omega) (by omega) h7 hsv hm
  · have hfr := Bytes.from hb (k + 1) (by omega)
    rw [h3] at hfr
    exact hfr
/-- A body's number as an iterator hands it over. -/
def okN (n : Nat) : Except Nat Int := .ok ((n : Nat) : Int)

set_option maxRecDepth 100000 in
set_option maxHeartbeats 2000000 in
theorem ofBodyClo_seq (A : Nat → Addr) (v : Value) (b ns : List Nat) (bb : Nat) (w : World) (hbb : Boxed w bb 30 v) (hB : Bytes w v b) (hl : b.length ≤ 100000) (hns : Od.nums b.length 2147483727 b = .ok ns) :
    SeqP Tryd.prog 43 #[.pointer (some ⟨bb, 0, none⟩)] (encN A) (fun _ => False) (fun r => r < w.heap.size) 0 (ns.map okN) w := by
  intro l J Jx W hC hJ hJx hY h0
  have HW := Lib.hid (hC.below (Nat.le_refl _))
  have B1 : Boxed W bb 30 v := (hC.same bb hbb.lt).trans hbb
  have c1 := B1.cell
  have HB := Lib.hid hB
  obtain ⟨_, va, _, _, vc, hv, hvc, _⟩ := hB
  subst hv
  have HY := Lib.hid hY
  have HC := Lib.hid hC
  have H0 := Lib.hid h0
  have HN0 : Hid (∃ f, Od.nums f 2147483727 b = .ok ns) := Lib.hid ⟨_, hns⟩
  have HIx := Lib.hid (fun v b k W hB hk hlo hhi hl => idxFunc_any v b k W hB hk hlo hhi hl)
  have HNb := Lib.hid (fun v b most W hB h0 hl h128 hm hm2 => numBytes_any v b most W hB h0 hl h128 hm hm2)
  obtain ⟨n, hn⟩ : ∃ n, n = b.length := ⟨_, rfl⟩
  rw [← hn] at hvc c1 hl B1 hbb HB
  have HN := Lib.hid hn
  clear hns hY hC h0 hn hbb B1
  refine (callsIn_wide (n := 5)).1 (callsIn_of_wp Tryd.func43 rfl trivial ?_ rfl)
  simp only [Tryd.ntmps43, List.size_toArray, List.length_cons, List.length_nil, Nat.reduceAdd, Nat.reduceSub, Array.replicate_succ, Array.replicate_zero, List.push_toArray, List.append_toArray, List.nil_append, List.cons_append]
  gi_wp2
  gi_loopw [3, 4] (fun m r wr => ∃ (most n' c' : Nat) (a' : Option Addr) (rest pre qs : List Nat), m = .int .i64 most ∧ most ≤ 2147483800 ∧ r = .slice a' n' c' ∧ n' = rest.length ∧ n' ≤ n ∧ Bytes w (.slice a' n' c') rest ∧ (∃ f, Od.nums f most rest = .ok qs) ∧ ns = pre ++ qs ∧ KeepsP (fun r => r < w.heap.size) w wr ∧ W.heap.size ≤ wr.heap.size ∧ J (pre.map okN) wr) (fun _ r _ => (match r with | .slice _ n _ => n | _ => 0 : Nat))
  case atStart => exact ⟨2147483727, n, vc, va, b, [], ns, rfl, by omega, rfl, HN.out, Nat.le_refl _, HB.out, HN0.out, rfl, HC.out, Nat.le_refl _, H0.out⟩
  case round =>
    obtain ⟨most, n', c', a', rest, pre, qs, rfl, hmost, rfl, hn', hnn, hb, hq, hqs, hk, hsz, hj⟩ := hrel
    have HQs := Lib.hid hqs
    have HK := Lib.hid hk
    have HSz := Lib.hid hsz
    have HJ := Lib.hid hj
    have HBr := Lib.hid hb
    have HBw := Lib.hid (hb.grown (hk.below (Nat.le_refl _)))
    have hcap : n' ≤ c' := (HBr.out.cap).2
    obtain ⟨f, hq⟩ := hq
    clear hqs hk hsz hj hb
    cases rest with
    | nil =>
      have hqn := nums_nil hq
      subst hqn
      have h00 : n' = 0 := hn'
      subst h00
      clear hq hn' HBr HBw
      gi_wp2
      go_end0
      exact ⟨⟨_, rfl⟩, .inl (by rw [HQs.out, List.append_nil]; exact HJ.out)⟩
    | cons x xs =>
      obtain ⟨k, m, t, r, HO, hqq, hr⟩ := one_piece HBr.out (HK.out.below (Nat.le_refl _)) (by omega) hq hmost
      obtain ⟨fn, tmps, assign, body, hy, hR⟩ := HY.out (pre.map okN) (okN m) wr ⟨r.map okN, by rw [HQs.out, hqq]; simp⟩ HJ.out HSz.out
      have hy' : (Instr.yield l #[.int .i64 ((m : Nat) : Int), .nilIface]).run Tryd.prog wr = .ok (.round l fn tmps assign body) wr := hy
      have HQq : Hid (ns = (pre ++ [m]) ++ r) := Lib.hid (by rw [HQs.out, hqq]; simp)
      have HRr := Lib.hid hr
      have HOne := Lib.hid HO
      obtain ⟨q0, q1, q2, q3, q4, q5⟩ := num_facts k n' t.length HO.len (by omega)
      have HQ0 := Lib.hid q0
      have HQ5 := Lib.hid q5
      have HIk := Lib.hid HO.idx
      have HNk := Lib.hid HO.val
      have HR : Hid (RoundIn Fence.wide 4 Tryd.prog l fn tmps assign body wr fun (e : Ending) W3 => ∃ q : Bool, e = .returned (.bool q) ∧ KeepsP (fun r => r < w.heap.size) w W3 ∧ W.heap.size ≤ W3.heap.size ∧ (q = true → J ((pre ++ [m]).map okN) W3) ∧ (q = false → ∃ pr, pr <+: ns.map okN ∧ Jx pr W3)) := Lib.hid ((hR 4).mono (by
        rintro e W3 (⟨rfl, h1, h2⟩ | ⟨rfl, h1, h2⟩)
        · exact ⟨true, rfl, HK.out.trans (h2.mono (fun r hr => .inl hr)), Nat.le_trans HSz.out h2.size, (fun _ => by simpa using h1), fun h => by cases h⟩
        · exact ⟨false, rfl, HK.out.trans (h2.mono (fun r hr => .inl hr)), Nat.le_trans HSz.out h2.size, (fun h => by cases h), fun _ => ⟨_, ⟨r.map okN, by rw [HQq.out]; simp⟩, h1⟩⟩))
      clear hy HO hqq hr hR hq hn' HBr HBw HQs HJ HIx HNb HY q0 q5 HK HSz HN HB HC H0 HN0 hJ hJx HW c1 hvc
      gi_wp2_with (first
        | (refine ⟨trivial, ?_⟩; gi_at_call 44; refine (callsIn_wide.2 HIk.out).mono ?_; rintro e w' ⟨rfl, hw'⟩; have hw2 := hw'.symm; subst hw2; clear hw')
        | (refine ⟨trivial, ?_⟩; gi_at_call 45; refine (callsIn_wide.2 HNk.out).mono ?_; rintro e w' ⟨rfl, hw'⟩; have hw2 := hw'.symm; subst hw2; clear hw')
        | (refine RoundIn.mono HR.out ?_; rintro e W3 ⟨q, rfl, hk3, hs3, ht3, hf3⟩; have K3 := Lib.hid hk3; have S3 := Lib.hid hs3; have T3 := Lib.hid ht3; have F3 := Lib.hid hf3; clear hk3 hs3 ht3 hf3))
      · have hqf : q = false := by cases q <;> simp_all
        refine bodyPost_ret (results_none rfl _ _ _) rfl ?_
        exact ⟨⟨_, rfl⟩, .inr (F3.out hqf)⟩
      · have hqt : q = true := by cases q <;> simp_all
        have HRest : Bytes w (.slice (if c' = k + 1 then a' else Option.map (fun x => { block := x.block, off := x.off + (k + 1) }) a') (n' - (k + 1)) (c' - (k + 1))) t := HOne.out.rest
        refine ⟨⟨2147483647, _, _, _, t, pre ++ [m], r, rfl, by omega, rfl, HQ0.out, by omega, HRest, HRr.out, HQq.out, K3.out, S3.out, T3.out hqt⟩, ?_⟩
        show n' - (k + 1) < n'
        omega

theorem nums_last : ∀ (f most : Nat) (l ns : List Nat), Od.nums f most l = .ok ns → 0 < l.length → l.getD (l.length - 1) 0 < 128
  | f, most, [], ns, _, h => by simp at h
  | f, most, c :: l, ns, h, _ => by
    obtain ⟨f', p, t, r, hp, h128, hsv, hr, hqq⟩ := nums_step h
    obtain ⟨k, h1, h2, h3, h4, h5, h6, h7⟩ := piece_facts hp h128
    rcases Nat.eq_zero_or_pos t.length with h0 | h0
    · rw [h2, h0, Nat.add_zero, Nat.add_sub_cancel]; exact h6
    · have ih := nums_last f' 2147483647 t r hr h0
      have e : (c :: l).getD ((c :: l).length - 1) 0 = t.getD (t.length - 1) 0 := by
        rw [← h3, List.getD_eq_getElem?_getD, List.getD_eq_getElem?_getD, List.getElem?_drop, List.length_drop]
        congr 2
        omega
      rw [e]; exact ih
  termination_by _ _ l => l.length
  decreasing_by
    rw [h2]; omega
theorem first_min (n : Nat) (hn : n ≤ 2147483800) : ((n : Int).tdiv 40 = ((n / 40 : Nat) : Int)) ∧ Od.firstOf n = min (n / 40) 2 := by
  refine ⟨?_, ?_⟩
  · rw [Int.tdiv_eq_ediv_of_nonneg (by omega)]; rfl
  · unfold Od.firstOf
    split
    · omega
    · split <;> omega

set_option maxRecDepth 100000 in
theorem ofBody_any (a : Option Addr) (n c : Nat) (w : World) :
    Calls Tryd.prog 30 #[.slice a n c] w fun e w' => e = .returned (.func (.func 43) #[] #[.pointer (some ⟨w.heap.size, 0, none⟩)]) ∧ w' = w.alloc (.cells #[.slice a n c] 30) := by
  have hmf := mkFun
  go_enter Tryd.func30, Tryd.ntmps30
  go_wp2
  go_ret
  exact ⟨rfl, rfl⟩
theorem whole0_sub (a : Addr) (k c n m : Nat) : Whole0 (.slice (subA (some a) k c) n m) := by
  intro x y e
  unfold subA at e
  split at e <;> cases e
theorem enters43 (args : Array Value) (w : World) : (callFunc 43 args).run Tryd.prog w = .ok (.enter 43 args) w := by
  simp [go_sem]

set_option maxRecDepth 100000 in
set_option maxHeartbeats 2000000 in
theorem gt_spec (A : Nat → Addr) (tp : TypeId) (p : Value) (w0 : World) (hF0 : Figs w0 tp p) (hE0 : RFErrs w0 A) : GtSpec w0 := by
  intro v b l w hw hB hl hg
  unfold Od.get at hg
  cases hn : Od.nums b.length 2147483727 b with
  | error k => rw [hn] at hg; cases hg
  | ok ns =>
    rw [hn] at hg
    cases ns with
    | nil => cases hg
    | cons n r =>
      simp only [] at hg
      split at hg
      · rename_i hr
        have hgl := Except.ok.inj hg
        obtain ⟨⟨hl2, hl16, _⟩, hall⟩ := (Od.right_iff _).1 hr
        have hr14 : r.length ≤ 14 := by simp at hl16; omega
        have hb0 : 0 < b.length := by
          cases b with
          | nil => have := nums_nil hn; cases this
          | cons => simp
        have hlast := nums_last _ _ _ _ hn hb0
        have hnb : n ≤ 2147483727 := by
          cases b with
          | nil => simp at hb0
          | cons x xs =>
            obtain ⟨_, pp, _, _, _, _, h1, _, h2⟩ := nums_step hn
            have := (List.cons.inj h2).1
            omega
        obtain ⟨_, a0, sb, so, c0, rfl, hc0, ha0, hcell⟩ := id hB
        obtain ⟨rfl, hsb⟩ := ha0 hb0
        have clast := hcell (b.length - 1) (by omega)
        have HOB := Lib.hid (ofBody_any (some ⟨sb, so, none⟩) b.length c0 w)
        have HG := gather_any A 43 #[.pointer (some ⟨w.heap.size, 0, none⟩)] 0 _ (w.alloc (.cells #[.slice (some ⟨sb, so, none⟩) b.length c0] 30)) enters43
          (ofBodyClo_seq A _ b (n :: r) w.heap.size _ (Boxed.new w _ _) (hB.grown (World.grownBy_alloc w _ none)) hl hn)
        have hgat : Od.gat ((n :: r).map okN) = .ok ((n :: r).map fun (m : Nat) => (m : Int)) := by
          have := Od.gat_ok ((n :: r).map fun (m : Nat) => (m : Int))
          rw [List.map_map] at this
          exact this
        have HG2 : Hid (Calls Tryd.prog 22 #[.func (.func 43) #[] #[.pointer (some ⟨w.heap.size, 0, none⟩)]] (w.alloc (.cells #[.slice (some ⟨sb, so, none⟩) b.length c0] 30)) fun e w' =>
            w.grownBy w' none ∧ ∃ g o c, e = .returned (.tuple #[.slice (some ⟨g, o, none⟩) (r.length + 1) c, .nilIface]) ∧ w'.cell? ⟨g, o, none⟩ = some (.int .i64 (n : Nat)) ∧ r.length + 1 ≤ c ∧ Ints w' (.slice (some ⟨g, o, none⟩) (r.length + 1) c) ((n : Int) :: r.map fun (m : Nat) => (m : Int))) := Lib.hid (HG.mono (by
          rintro e w' ⟨h1, h2⟩
          rw [hgat] at h2
          obtain ⟨u, h3, h4, h5⟩ := h2
          rw [List.take_of_length_le (by simp; omega)] at h4
          refine ⟨grown_trans (World.grownBy_alloc w _ none) h1, ?_⟩
          have h4' := h4
          obtain ⟨a, g, o, c, rfl, hc, ha, hcl⟩ := h4'
          obtain ⟨rfl, _⟩ := ha (by simp)
          have hc1 : w'.cell? ⟨g, o, none⟩ = some (.int .i64 (n : Nat)) := hcl 0 (by simp)
          simp only [List.length_map, List.length_cons, List.map_cons] at *
          exact ⟨g, o, c, h3, hc1, hc, h4⟩))
        obtain ⟨_, hmin⟩ := first_min n (by omega)
        obtain ⟨f, hf⟩ : ∃ f, f = Od.firstOf n := ⟨_, rfl⟩
        obtain ⟨s, hs⟩ : ∃ s, s = n - 40 * Od.firstOf n := ⟨_, rfl⟩
        obtain ⟨R, hR⟩ : ∃ R : List Int, R = r.map fun (m : Nat) => (m : Int) := ⟨_, rfl⟩
        have hRl : R.length = r.length := by rw [hR, List.length_map]
        have q1 : min ((n : Int) / 40) 2 = (f : Int) := by omega
        have q2 : (n : Int) - (f : Int) * 40 = (s : Int) := by omega
        rw [← hs, ← hf, ← hR] at hr hgl
        rw [← hR] at HG2
        have HTx : Hid (∀ v W, w.grownBy W none → Ints W v ((f : Int) :: (s : Int) :: R) → Calls Tryd.prog 15 #[v] W fun e w' => e = .returned (.tuple #[.string (strOf (Od.text l)), .nilIface]) ∧ W.grownBy w' none) := Lib.hid (fun v W hW hI => by
          have := tx_spec A tp p w0 hF0 hE0 v _ W (grown_trans hw hW) hI (by simp; omega)
          rw [if_pos hr, hgl] at this
          exact this.mono (fun e w' h => ⟨h.2, h.1⟩))
        have HRl := Lib.hid hRl
        have HIl := Lib.hid (fun x hx W => isLast_any x hx W)
        have hx256 : b.getD (b.length - 1) 0 < 256 := by omega
        obtain ⟨x, hx⟩ : ∃ x, x = b.getD (b.length - 1) 0 := ⟨_, rfl⟩
        rw [← hx] at clast hlast hx256
        have HIx := Lib.hid (HIl.out x hx256)
        rw [decide_eq_true hlast] at HIx
        obtain ⟨m, hm⟩ : ∃ m, b.length = m + 1 := ⟨b.length - 1, by omega⟩
        rw [hm] at HOB HG2 hl hc0 clast ⊢
        rw [Nat.add_sub_cancel] at clast
        clear HG hgat hgl hg hr hall hl2 hl16 hB hcell hn hF0 hE0 hw hx HIl hlast hsb ha0 hb0 hm hf hs hR hRl hmin
        generalize strOf (Od.text l) = TX at *
        go_enter Tryd.func12, Tryd.ntmps12
        go_wp2_with (first
          | (go_at_call 29; refine (HIx.out _).mono ?_; rintro e w1 ⟨rfl, hw1⟩; have hw2 := hw1.symm; subst hw2; clear hw1)
          | (go_at_call 30; refine HOB.out.mono ?_; rintro e w1 ⟨rfl, rfl⟩)
          | (go_at_call 22; refine HG2.out.mono ?_; rintro e w2 ⟨hg2, g, o, c, rfl, c1, hc2, hi2⟩; have HG3 := Lib.hid hg2; have HI3 := Lib.hid hi2; have HI4 : Hid (∀ W, w2.grownBy W none → Ints W (.slice (subA (some ⟨g, o, none⟩) 1 c) r.length (c - 1)) R) := Lib.hid (fun W hW => Ints.from (hi2.grown hW) 1 (by omega)); clear hg2 hi2)
          | (at_builtin; refine wpList_appI (by rfl) (.tmp 44) (.tmp 46) 23 (by rfl) w.heap.size 3 (.int .i64 0) 8 Tryd.underlying23 (by kernel_rfl) rfl (by decide) _ 2 (cellsI [(f : Int), (s : Int)]) (by rfl) (ownsRow_lit (alloc_at w2 _) HG3.out.size (by simp)) _ R (by rfl) (HI4.out _ (World.grownBy_alloc _ _ _)) (whole0_sub _ _ _ _ _) (by have := HRl.out; omega) (by have := HG3.out.size; rw [alloc_size]; omega) ?_; intro v' w3 ho3 hg3; have HG4 : Hid (w.grownBy w3 none) := Lib.hid (grown_own (grown_alloc HG3.out _) (ownsRow_lit (alloc_at w2 _) HG3.out.size (by simp)) (Nat.le_refl _) hg3); have HI5 : Hid (Ints w3 v' ((f : Int) :: (s : Int) :: R)) := Lib.hid (Ints.own (l := (f : Int) :: (s : Int) :: R) ho3); clear ho3 hg3)
          | (go_at_call 15; refine (HTx.out _ _ HG4.out HI5.out).mono ?_; rintro e w4 ⟨rfl, hg4⟩; have HG5 := Lib.hid (grown_trans HG4.out hg4); clear hg4))
        go_ret2
        exact ⟨HG5.out, rfl⟩
      · cases hg
end Go.Proofs.YtflelmbkndmcgaaDoor
