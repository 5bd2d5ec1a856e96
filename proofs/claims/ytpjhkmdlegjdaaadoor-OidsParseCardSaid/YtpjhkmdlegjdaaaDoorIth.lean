/- The iterator over a body's numbers, and package oids' Get, over all bodies. -/
import Derived.Test.YtpjhkmdlegjdaaaDoorItg
namespace Go.Proofs.YtpjhkmdlegjdaaaDoor
open Go.RowKit
attribute [local go_sem] Oper.semAt_some

set_option maxRecDepth 100000 in
set_option maxHeartbeats 2000000 in
theorem ofBodyClo_seq (A : Nat → Addr) (v : Value) (b : List Nat) (src : List (Except Nat Int)) (bb : Nat) (w : World) (hE : SFErrs w A) (hbb : Boxed w bb 30 v) (hB : Bytes w v b) (hl : b.length ≤ 100000) (hns : Od.seqs b.length 2147483727 b = src) :
    SeqP Tryd.prog 42 #[.pointer (some ⟨bb, 0, none⟩)] (encN A) (fun _ => False) (fun r => r < w.heap.size) 0 src w := by
  intro l J Jx W hC hJ hJx hY h0
  have B1 : Boxed W bb 30 v := (hC.same bb hbb.lt).trans hbb
  have c1 := B1.cell
  have HB := Lib.hid hB
  have HEr := Lib.hid hE
  obtain ⟨_, va, _, _, vc, hv, hvc, _⟩ := hB
  subst hv
  have HY := Lib.hid hY
  have HC := Lib.hid hC
  have H0 := Lib.hid h0
  obtain ⟨n, hn⟩ : ∃ n, n = b.length := ⟨_, rfl⟩
  rw [← hn] at hvc c1 hl B1 hbb HB hns
  have HN0 := Lib.hid hns
  have HN := Lib.hid hn
  have HJ0 := Lib.hid hJ
  clear hns hY hC h0 hn hbb B1 hE
  refine (callsIn_wide (n := 5)).1 (callsIn_of_wp Tryd.func42 rfl trivial ?_ rfl)
  simp only [Tryd.ntmps42, List.size_toArray, List.length_cons, List.length_nil, Nat.reduceAdd, Nat.reduceSub, Array.replicate_succ, Array.replicate_zero, List.push_toArray, List.append_toArray, List.nil_append, List.cons_append]
  gi_wp2
  gi_loopw [3, 4] (fun m r wr => ∃ (most n' c' f : Nat) (a' : Option Addr) (rest : List Nat) (pre : List (Except Nat Int)), m = .int .i64 most ∧ most ≤ 2147483800 ∧ r = .slice a' n' c' ∧ n' = rest.length ∧ n' ≤ n ∧ n' ≤ f ∧ Bytes w (.slice a' n' c') rest ∧ src = pre ++ Od.seqs f most rest ∧ KeepsP (fun r => r < w.heap.size) w wr ∧ W.heap.size ≤ wr.heap.size ∧ J pre wr) (fun _ r _ => (match r with | .slice _ n _ => n | _ => 0 : Nat))
  case atStart => exact ⟨2147483727, n, vc, n, va, b, [], rfl, by omega, rfl, HN.out, Nat.le_refl _, Nat.le_refl _, HB.out, HN0.out.symm, HC.out, Nat.le_refl _, H0.out⟩
  case round =>
    obtain ⟨most, n', c', f, a', rest, pre, rfl, hmost, rfl, hn', hnn, hnf, hb, hqs, hk, hsz, hj⟩ := hrel
    have HQs := Lib.hid hqs
    have HK := Lib.hid hk
    have HSz := Lib.hid hsz
    have HJ := Lib.hid hj
    have HBr := Lib.hid hb
    have hcap : n' ≤ c' := (HBr.out.cap).2
    clear hqs hk hsz hj hb
    cases rest with
    | nil =>
      have h00 : n' = 0 := hn'
      subst h00
      have HS0 : Hid (src = pre) := Lib.hid (by rw [HQs.out]; cases f <;> simp [Od.seqs])
      clear hn' HBr HQs hnf
      gi_wp2
      go_end0
      exact ⟨⟨_, rfl⟩, .inl (by rw [HS0.out]; exact HJ.out)⟩
    | cons x xs =>
      obtain ⟨k, q, t, HO, hqq⟩ := one_piece (most := most) HEr.out HBr.out (HK.out.below (Nat.le_refl _)) (by omega) hmost
      obtain ⟨g, rfl⟩ : ∃ g, f = g + 1 := ⟨f - 1, by simp at hn'; omega⟩
      obtain ⟨X, hX⟩ : ∃ X, X = Od.numB most q := ⟨_, rfl⟩
      have HO5 := HO.val
      rw [← hX] at HO5
      rw [hqq, ← hX] at HQs
      obtain ⟨ea, eb, hab⟩ := encN_two A X
      rw [hab] at HO5
      have HQq : Hid (src = (pre ++ [X]) ++ Od.seqs g 2147483647 t) := Lib.hid (by rw [HQs.out]; simp)
      have HOne := Lib.hid HO
      obtain ⟨q0, q2, q3, q4, q5⟩ := num_facts k n' t.length HO.len (by omega)
      have HQ0 := Lib.hid q0
      have HQ5 := Lib.hid q5
      have HQg : Hid (n' - (k + 1) ≤ g) := Lib.hid (by omega)
      have HIk := Lib.hid HO.idx
      have HNk := Lib.hid HO5
      have HR : Hid (∀ w5, wr.grownBy w5 none → ∃ fn tmps assign body, (Instr.yield l #[ea, eb]).run Tryd.prog w5 = .ok (.round l fn tmps assign body) w5 ∧ RoundIn Fence.wide 4 Tryd.prog l fn tmps assign body w5 fun (e : Ending) W3 => ∃ q : Bool, e = .returned (.bool q) ∧ KeepsP (fun r => r < w.heap.size) w W3 ∧ W.heap.size ≤ W3.heap.size ∧ (q = true → J (pre ++ [X]) W3) ∧ (q = false → ∃ pr, pr <+: src ∧ Jx pr W3)) := Lib.hid (fun w5 h5 => by
        obtain ⟨fn, tmps, assign, body, hy, hR⟩ := HY.out pre X w5 ⟨_, HQq.out.symm⟩ (HJ0.out _ _ _ none HJ.out h5 (fun r e => by cases e)) (Nat.le_trans HSz.out h5.size)
        rw [hab] at hy
        have HK5 : KeepsP (fun r => r < w.heap.size) w w5 := HK.out.trans (KeepsP.grown h5 (fun r hr => ⟨Nat.lt_of_lt_of_le hr HK.out.size, by simp⟩))
        refine ⟨fn, tmps, assign, body, hy, (hR 4).mono ?_⟩
        rintro e W3 (⟨rfl, h1, h2⟩ | ⟨rfl, h1, h2⟩)
        · exact ⟨true, rfl, HK5.trans (h2.mono (fun r hr => .inl hr)), Nat.le_trans HSz.out (Nat.le_trans h5.size h2.size), (fun _ => h1), fun h => by cases h⟩
        · exact ⟨false, rfl, HK5.trans (h2.mono (fun r hr => .inl hr)), Nat.le_trans HSz.out (Nat.le_trans h5.size h2.size), (fun h => by cases h), fun _ => ⟨_, ⟨_, HQq.out.symm⟩, h1⟩⟩)
      have hk1 : ((k + 1 : Nat) : Int) = (k : Int) + 1 := by omega
      clear HO hqq hn' HBr HQs HJ HY q0 q5 HK HSz HN HB HC H0 HN0 hJ hJx c1 hvc hX HO5 hab hnf HEr HJ0
      gi_wp2_with (first
        | (refine ⟨trivial, ?_⟩; gi_at_call 43; refine (callsIn_wide.2 HIk.out).mono ?_; rintro e w' ⟨rfl, hw'⟩; have hw2 := hw'.symm; subst hw2; clear hw')
        | (refine ⟨trivial, ?_⟩; gi_at_call 44; refine (callsIn_wide.2 HNk.out).mono ?_; rintro e w5 ⟨rfl, hg5⟩; obtain ⟨fn, tmps, assign, body, hy, hR⟩ := HR.out _ hg5; have HR2 := Lib.hid hR; clear hR hg5)
        | (refine RoundIn.mono HR2.out ?_; rintro e W3 ⟨q, rfl, hk3, hs3, ht3, hf3⟩; have K3 := Lib.hid hk3; have S3 := Lib.hid hs3; have T3 := Lib.hid ht3; have F3 := Lib.hid hf3; clear hk3 hs3 ht3 hf3))
      · have hqf : q = false := by cases q <;> simp_all
        refine bodyPost_ret (results_none rfl _ _ _) rfl ?_
        exact ⟨⟨_, rfl⟩, .inr (F3.out hqf)⟩
      · have hqt : q = true := by cases q <;> simp_all
        have HRest : Bytes w (.slice (if c' = k + 1 then a' else Option.map (fun x => { block := x.block, off := x.off + (k + 1) }) a') (n' - (k + 1)) (c' - (k + 1))) t := HOne.out.rest
        refine ⟨⟨2147483647, _, _, g, _, t, pre ++ [X], rfl, by omega, rfl, HQ0.out, by omega, HQg.out, HRest, HQq.out, K3.out, S3.out, T3.out hqt⟩, ?_⟩
        show n' - (k + 1) < n'
        omega

theorem first_min (n : Nat) (hn : n ≤ 2147483800) : ((n : Int).tdiv 40 = ((n / 40 : Nat) : Int)) ∧ Od.firstOf n = min (n / 40) 2 := by
  refine ⟨?_, ?_⟩
  · rw [Int.tdiv_eq_ediv_of_nonneg (by omega)]; rfl
  · unfold Od.firstOf
    split
    · omega
    · split <;> omega

set_option maxRecDepth 100000 in
theorem ofBody_any (a : Option Addr) (n c : Nat) (w : World) :
    Calls Tryd.prog 29 #[.slice a n c] w fun e w' => e = .returned (.func (.func 42) #[] #[.pointer (some ⟨w.heap.size, 0, none⟩)]) ∧ w' = w.alloc (.cells #[.slice a n c] 30) := by
  have hmf := mkFun
  go_enter Tryd.func29, Tryd.ntmps29
  go_wp2
  go_ret
  exact ⟨rfl, rfl⟩
theorem whole0_sub (a : Addr) (k c n m : Nat) : Whole0 (.slice (subA (some a) k c) n m) := by
  intro x y e
  unfold subA at e
  split at e <;> cases e
theorem enters43 (args : Array Value) (w : World) : (callFunc 42 args).run Tryd.prog w = .ok (.enter 42 args) w := by
  simp [go_sem]


/-- oids.Get answers as the document says, of any body. -/
def GtAny (A : Nat → Addr) (w : World) : Prop := ∀ (v : Value) (b : List Nat) (W : World), w.grownBy W none → Bytes W v b → b.length ≤ 100000 → Calls Tryd.prog 12 #[v] W fun e w' => W.grownBy w' none ∧ e = .returned (match Od.get b with
  | .ok l => .tuple #[.string (strOf (Od.text l)), .nilIface]
  | .error k => .tuple #[.string ⟨#[]⟩, errV A k])
theorem right_take16 (f s : Int) (r : List Int) : Od.right (f :: s :: r.take 16) = Od.right (f :: s :: r) := by
  rcases Nat.lt_or_ge 16 r.length with h | h
  · have h1 : Od.right (f :: s :: r) = false := by
      rw [← Bool.not_eq_true]; intro e
      have := ((Od.right_iff _).1 e).1.2.1
      simp at this; omega
    have h2 : Od.right (f :: s :: r.take 16) = false := by
      rw [← Bool.not_eq_true]; intro e
      have := ((Od.right_iff _).1 e).1.2.1
      simp [List.length_take] at this; omega
    rw [h1, h2]
  · rw [List.take_of_length_le h]
theorem nums_first {f most : Nat} {b ns : List Nat} {n : Nat} (h : Od.nums f most b = .ok (n :: ns)) : n ≤ most := by
  cases b with
  | nil => cases f <;> (rw [Od.nums] at h; cases h)
  | cons c l =>
    cases f with
    | zero => rw [Od.nums] at h; cases h
    | succ f =>
      rw [Od.nums] at h
      split at h
      · cases h
      · split at h
        · cases h
        · split at h
          · cases h
          · rename_i h2
            split at h
            · cases h
            · have := Except.ok.inj h
              have := (List.cons.inj this).1
              omega
theorem nums_cons {f most : Nat} {b : List Nat} (h0 : 0 < b.length) (h : Od.nums f most b = .ok []) : False := by
  cases b with
  | nil => simp at h0
  | cons c l =>
    cases f with
    | zero => rw [Od.nums] at h; cases h
    | succ f =>
      rw [Od.nums] at h
      split at h
      · cases h
      · split at h
        · cases h
        · split at h
          · cases h
          · split at h
            · cases h
            · cases Except.ok.inj h

set_option maxRecDepth 100000 in
set_option maxHeartbeats 2000000 in
theorem gt_any (A : Nat → Addr) (tp : TypeId) (p : Value) (w0 : World) (hF0 : Figs w0 tp p) (hE0 : SFErrs w0 A) : GtAny A w0 := by
  intro v b w hw hB hl
  have hEw := hE0.grown hw
  obtain ⟨_, a0, sb, so, c0, rfl, hc0, ha0, hcell⟩ := id hB
  rcases Nat.eq_zero_or_pos b.length with hz | hb0
  · have hbn : b = [] := List.length_eq_zero_iff.1 hz
    subst hbn
    have eS := hEw.short
    clear hE0 hEw hF0 hcell ha0 hB
    simp only [Od.get, Od.nums, List.length_nil]
    go_enter Tryd.func12, Tryd.ntmps12
    go_wp2
    go_quiet (fail)
    go_wp2
    go_ret2
    exact ⟨grown_drewN (grown_refl _ _) _, rfl⟩
  obtain ⟨rfl, hsb⟩ := ha0 hb0
  have HOB := Lib.hid (ofBody_any (some ⟨sb, so, none⟩) b.length c0 w)
  have hga := World.grownBy_alloc w (.cells #[.slice (some ⟨sb, so, none⟩) b.length c0] 30) none
  have HG := gather_any A 42 #[.pointer (some ⟨w.heap.size, 0, none⟩)] 0 _ (w.alloc (.cells #[.slice (some ⟨sb, so, none⟩) b.length c0] 30)) enters43
    (ofBodyClo_seq A _ b _ w.heap.size _ (hEw.grown hga) (Boxed.new w _ _) (hB.grown hga) hl rfl)
  have hgat := Od.seqs_nums b.length 2147483727 b (Nat.le_refl _)
  unfold Od.get
  unfold GaPost at HG
  rw [hgat] at HG
  cases hn : Od.nums b.length 2147483727 b with
  | error k =>
    rw [hn] at HG
    have HG2 : Hid (Calls Tryd.prog 22 #[.func (.func 42) #[] #[.pointer (some ⟨w.heap.size, 0, none⟩)]] (w.alloc (.cells #[.slice (some ⟨sb, so, none⟩) b.length c0] 30)) fun e w' =>
        w.grownBy w' none ∧ e = .returned (.tuple #[.slice none 0 0, errV A k])) := Lib.hid (HG.mono (by
      rintro e w' ⟨h1, h2⟩
      exact ⟨grown_trans hga h1, h2⟩))
    obtain ⟨m, hm⟩ : ∃ m, b.length = m + 1 := ⟨b.length - 1, by omega⟩
    rw [hm] at HOB HG2
    rw [hm]
    clear HG hgat hn hB hcell hF0 hE0 hw hEw hsb ha0 hb0 hl hc0 hga hm
    go_enter Tryd.func12, Tryd.ntmps12
    go_wp2_with (first
      | (go_at_call 29; refine HOB.out.mono ?_; rintro e w1 ⟨rfl, rfl⟩)
      | (go_at_call 22; refine HG2.out.mono ?_; rintro e w2 ⟨hg2, rfl⟩; have HG3 := Lib.hid hg2; clear hg2))
    first
      | go_ret2
      | (go_quiet (fail); go_wp2; go_ret2)
    first
      | exact ⟨HG3.out, rfl⟩
      | exact ⟨grown_drewN HG3.out _, rfl⟩
  | ok ns =>
    rw [hn] at HG
    cases ns with
    | nil => exact (nums_cons hb0 hn).elim
    | cons n r =>
      have hnb : n ≤ 2147483727 := nums_first hn
      obtain ⟨R, hR⟩ : ∃ R : List Int, R = (r.map fun (m : Nat) => (m : Int)).take 16 := ⟨_, rfl⟩
      have hRl : R.length ≤ 16 := by rw [hR, List.length_take]; omega
      have HG2 : Hid (Calls Tryd.prog 22 #[.func (.func 42) #[] #[.pointer (some ⟨w.heap.size, 0, none⟩)]] (w.alloc (.cells #[.slice (some ⟨sb, so, none⟩) b.length c0] 30)) fun e w' =>
          w.grownBy w' none ∧ ∃ g o c, e = .returned (.tuple #[.slice (some ⟨g, o, none⟩) (R.length + 1) c, .nilIface]) ∧ w'.cell? ⟨g, o, none⟩ = some (.int .i64 (n : Nat)) ∧ R.length + 1 ≤ c ∧ Ints w' (.slice (some ⟨g, o, none⟩) (R.length + 1) c) ((n : Int) :: R)) := Lib.hid (HG.mono (by
        rintro e w' ⟨h1, h2⟩
        obtain ⟨u, h3, h4, h5⟩ := h2
        have htk : ((n :: r).map fun (m : Nat) => (m : Int)).take 17 = (n : Int) :: R := by rw [hR]; rfl
        rw [htk] at h4
        refine ⟨grown_trans hga h1, ?_⟩
        have h4' := h4
        obtain ⟨a, g, o, c, rfl, hc, ha, hcl⟩ := h4'
        obtain ⟨rfl, _⟩ := ha (by simp)
        have hc1 : w'.cell? ⟨g, o, none⟩ = some (.int .i64 (n : Nat)) := hcl 0 (by simp)
        simp only [List.length_cons] at *
        exact ⟨g, o, c, h3, hc1, hc, h4⟩))
      obtain ⟨_, hmin⟩ := first_min n (by omega)
      obtain ⟨f, hf⟩ : ∃ f, f = Od.firstOf n := ⟨_, rfl⟩
      obtain ⟨s, hs⟩ : ∃ s, s = n - 40 * Od.firstOf n := ⟨_, rfl⟩
      have q1 : min ((n : Int) / 40) 2 = (f : Int) := by omega
      have q2 : (n : Int) - (f : Int) * 40 = (s : Int) := by omega
      have hrt := right_take16 (f : Int) (s : Int) (r.map fun (m : Nat) => (m : Int))
      rw [← hR] at hrt
      have HTx : Hid (∀ v W, w.grownBy W none → Ints W v ((f : Int) :: (s : Int) :: R) → Calls Tryd.prog 15 #[v] W fun e w' => e = .returned (match (if Od.right ((f : Int) :: (s : Int) :: r.map fun (m : Nat) => (m : Int)) = true then Except.ok ((f : Int) :: (s : Int) :: r.map fun (m : Nat) => (m : Int)) else .error 1 : Except Nat (List Int)) with
          | .ok l => .tuple #[.string (strOf (Od.text l)), .nilIface]
          | .error k => .tuple #[.string ⟨#[]⟩, errV A k]) ∧ W.grownBy w' none) := Lib.hid (fun v W hW hI => by
        have := tx_spec A tp p w0 hF0 hE0.rf v _ W (grown_trans hw hW) hI (by simp; omega)
        rw [hrt] at this
        refine this.mono (fun e w' h => ⟨?_, h.1⟩)
        rw [h.2]
        by_cases hr : Od.right ((f : Int) :: (s : Int) :: r.map fun (m : Nat) => (m : Int)) = true
        · rw [if_pos hr, if_pos hr]
          have : R = r.map fun (m : Nat) => (m : Int) := by
            rw [hR]
            exact List.take_of_length_le (by have := ((Od.right_iff _).1 hr).1.2.1; simp at this ⊢; omega)
          rw [this]
        · rw [if_neg hr, if_neg hr])
      have hs' : n - 40 * f = s := by rw [hf, ← hs]
      simp only [← hf, hs']
      obtain ⟨X, hX⟩ : ∃ X : Value, X = (match (if Od.right ((f : Int) :: (s : Int) :: r.map fun (m : Nat) => (m : Int)) = true then Except.ok ((f : Int) :: (s : Int) :: r.map fun (m : Nat) => (m : Int)) else .error 1 : Except Nat (List Int)) with
          | .ok l => .tuple #[.string (strOf (Od.text l)), .nilIface]
          | .error k => .tuple #[.string ⟨#[]⟩, errV A k]) := ⟨_, rfl⟩
      have hX2 : ∃ x y, X = .tuple #[x, y] := by
        rw [hX]; split
        · exact ⟨_, _, rfl⟩
        · exact ⟨_, _, rfl⟩
      rw [← hX] at HTx ⊢
      obtain ⟨x, y, hxy⟩ := hX2
      rw [hxy] at HTx ⊢
      have HRl := Lib.hid hRl
      obtain ⟨m, hm⟩ : ∃ m, b.length = m + 1 := ⟨b.length - 1, by omega⟩
      rw [hm] at HOB HG2
      rw [hm]
      clear HG hgat hn hB hcell hF0 hE0 hw hEw hsb ha0 hb0 hl hc0 hga hm hs' hf hs hR hRl hmin hX hxy hrt
      go_enter Tryd.func12, Tryd.ntmps12
      go_wp2_with (first
        | (go_at_call 29; refine HOB.out.mono ?_; rintro e w1 ⟨rfl, rfl⟩)
        | (go_at_call 22; refine HG2.out.mono ?_; rintro e w2 ⟨hg2, g, o, c, rfl, c1, hc2, hi2⟩; have HG3 := Lib.hid hg2; have HI3 := Lib.hid hi2; have HI4 : Hid (∀ W, w2.grownBy W none → Ints W (.slice (subA (some ⟨g, o, none⟩) 1 c) R.length (c - 1)) R) := Lib.hid (fun W hW => Ints.from (hi2.grown hW) 1 (by omega)); clear hg2 hi2)
        | (at_builtin; refine wpList_appI (by rfl) (.tmp 34) (.tmp 36) 23 (by rfl) w.heap.size 3 (.int .i64 0) 8 Tryd.underlying23 (by kernel_rfl) rfl (by decide) _ 2 (cellsI [(f : Int), (s : Int)]) (by rfl) (ownsRow_lit (alloc_at w2 _) HG3.out.size (by simp)) _ R (by rfl) (HI4.out _ (World.grownBy_alloc _ _ _)) (whole0_sub _ _ _ _ _) (by have := HRl.out; omega) (by have := HG3.out.size; rw [alloc_size]; omega) ?_; intro v' w3 ho3 hg3; have HG4 : Hid (w.grownBy w3 none) := Lib.hid (grown_own (grown_alloc HG3.out _) (ownsRow_lit (alloc_at w2 _) HG3.out.size (by simp)) (Nat.le_refl _) hg3); have HI5 : Hid (Ints w3 v' ((f : Int) :: (s : Int) :: R)) := Lib.hid (Ints.own (l := (f : Int) :: (s : Int) :: R) ho3); clear ho3 hg3)
        | (go_at_call 15; refine (HTx.out _ _ HG4.out HI5.out).mono ?_; rintro e w4 ⟨rfl, hg4⟩; have HG5 := Lib.hid (grown_trans HG4.out hg4); clear hg4))
      go_ret2
      exact ⟨HG5.out, rfl⟩
/-- Of right bodies. -/
theorem gt_spec (A : Nat → Addr) (tp : TypeId) (p : Value) (w0 : World) (hF0 : Figs w0 tp p) (hE0 : SFErrs w0 A) : GtSpec w0 := by
  intro v b l w hw hB hl hg
  have := gt_any A tp p w0 hF0 hE0 v b w hw hB hl
  rw [hg] at this
  exact this
end Go.Proofs.YtpjhkmdlegjdaaaDoor
