import Derived.Test.YtihioekepflpiaaGreatDoorZb01
import Derived.Test.YtihioekepflpiaaGreatDoorZb05
import Derived.Test.YtihioekepflpiaaGreatDoorZb11
import Derived.Test.YtihioekepflpiaaGreatDoorZb12
import Derived.Test.YtihioekepflpiaaGreatDoorZb15
import Derived.Test.YtihioekepflpiaaGreatDoorZb19
import Derived.Test.YtihioekepflpiaaGreatDoorZb27
import Derived.Laws.Tables
import Derived.Laws.Rows
import Derived.RegionTactic
import Derived.BigRegion
import Derived.ChangeAlike
import Derived.Laws.Externs
import Derived.WalkKit
import Derived.Lib.Hide
set_option linter.unusedVariables false
set_option linter.unusedSimpArgs false
namespace Go.Proofs.YtihioekepflpiaaGreatDoor
open Go.RowKit
end Go.Proofs.YtihioekepflpiaaGreatDoor
namespace Go.Proofs.YtihioekepflpiaaGreatDoor
open Go.RowKit
set_option maxRecDepth 100000 in
theorem clone_any (v : Value) (l : List Nat) (w : World) (hB : Bytes w v l) (h0 : Whole0 v) (hl : l.length ≤ 1099511620000) :
    Calls Tryz.prog 67 #[v] w fun e w' => ∃ u, e = .returned u ∧ FrW w w' u l ∧ ∃ a c, u = .slice a l.length c := by
  have HB := Lib.hid hB
  have H0 := Lib.hid h0
  obtain ⟨hlt, a, sb, so, c, rfl, hc, ha, hcell⟩ := hB
  have Hlt := Lib.hid hlt
  obtain ⟨n, hn⟩ : ∃ n, n = l.length := ⟨_, rfl⟩
  have HN := Lib.hid hn
  rw [← hn] at HB H0 hl ⊢
  clear hlt hc ha hcell
  have heq : ∀ (w : World) (a : Option Addr), (binOp .eql 58 (.slice a n c) (.slice none 0 0)).run Tryz.prog w = .ok (.bool a.isNone) w := fun w a => Lib.run_eql_slice_nil w 58 5 a n c 0 0 Tryz.underlying58
  match a, HB, H0, h0 with
  | none, HB, H0, h0 =>
    obtain ⟨h1, h2⟩ := h0 _ _ rfl
    have hl0 : l = [] := List.eq_nil_of_length_eq_zero (by rw [← hn]; omega)
    subst hl0
    obtain rfl : n = 0 := hn
    subst h2
    clear h0
    go_enter Tryz.func67, Tryz.ntmps67
    go_wp2
    go_ret
    exact ⟨_, rfl, ⟨grown_refl _ _, ownsRow_empty _ _ _⟩, _, _, rfl⟩
  | some ad, HB, H0, h0 =>
    clear h0 hn
    have F1 : Hid (FrW w (w.alloc (.cells #[] 5)) (.slice (some ⟨w.heap.size, 0, none⟩) 0 0) []) := Lib.hid ⟨World.grownBy_alloc _ _ _, ownsRow_lit (alloc_at w _) (Nat.le_refl _) (by simp)⟩
    go_enter Tryz.func67, Tryz.ntmps67
    go_wp2_with (at_builtin; refine wpList_appB (by rfl) (.tmp 5) (.tmp 6) 58 (by rfl) w.heap.size 5 (.int .u8 0) 1 Tryz.underlying58 (by kernel_rfl) rfl (by decide) _ 0 [] (by rfl) F1.out.own _ l (by rfl) (HB.out.grown F1.out.grown) H0.out (by rw [← HN.out]; omega) F1.out.le ?_; intro v2 w2 ho2 hg2; have F2 := Lib.hid (F1.out.step (l' := l) ho2 hg2 rfl); have HO2 := Lib.hid ho2; clear ho2 hg2)
    go_ret
    obtain ⟨a2, _, c2, rfl, _⟩ := ownsRow_form F2.out.own
    exact ⟨_, rfl, F2.out, a2, c2, by rw [HN.out]; rfl⟩
end Go.Proofs.YtihioekepflpiaaGreatDoor
namespace Go.Proofs.YtihioekepflpiaaGreatDoor
open Go.RowKit
theorem wpList_app1q {P : Program} {w : World} {ops : Array Oper} {rest : List Oper} {o : Oper} {a : Act} {Q : Exit → Act → World → Prop} (hgd : o.guard = none) (s x : Operand) (t : TypeId)
    (ho : o.op = .call { callee := .builtin .append, args := #[s, x], argTypes := #[t, t] })
    (base : Nat) (e : TypeId) (z : Value) (bytes : Nat) (ht : P.underlying t = some (.slice e)) (hi : (P.info? e).map (fun i => (i.zero, i.size, i.bytes)) = some (some z, 1, bytes)) (hzs : z.cells.size = 1) (hby : bytes ≤ 64)
    (v : Value) (n : Nat) (xs : List Value) (hs : a.eval s = v) (hown : w.ownsRow base e 1 v n xs)
    (g k : Nat) (cs : Array Value) (t' : TypeId) (fr : Nat × Nat) (hx : a.eval x = .slice (some ⟨g, 0, none⟩) 1 1) (hg : w.heap[g]? = some (.cells cs t' fr)) (hc : cs = #[.int .u8 (k : Nat)]) (hk : k < 256)
    (h63 : n + 1 ≤ 1099511627776) (hbase : base ≤ w.heap.size)
    (h : ∀ v' w', w'.ownsRow base e 1 v' (n + 1) (xs ++ cellsL [k]) → w.grownBy w' v.ownBlock → (v'.ownBlock = v.ownBlock ∨ v'.ownBlock = some w.heap.size) → wpList P ops Q rest (a.put o.dst v') w') : wpList P ops Q (o :: rest) a w := by
  subst hc
  exact wpList_appB2 hgd s x t ho base e z bytes ht hi hzs hby v n xs hs hown _ [k] hx (Bytes.lit (l := [k]) hg (by simpa using hk)) (Whole0.some _ _ _) h63 hbase h

/-- From w on a row of the call's own is v, holds l, and what else there was stands: but for the row that v0 was. -/
structure Rw (w w' : World) (base : Nat) (v0 v : Value) (l : List Nat) : Prop where
  own : w'.ownsRow base 5 1 v l.length (cellsL l)
  grown : w.grownBy w' v0.ownBlock
  same : v.ownBlock = v0.ownBlock ∨ ∃ g, v.ownBlock = some g ∧ w.heap.size ≤ g
theorem Rw.start {w : World} {base : Nat} {v : Value} {l : List Nat} {m : Nat} (h : w.ownsRow base 5 1 v m (cellsL l)) : Rw w w base v v l := by
  have hm : m = l.length := by have := h.1; simpa [cellsL] using this.symm
  subst hm
  exact ⟨h, grown_refl _ _, .inl rfl⟩
theorem Rw.alloc {w w' : World} {base : Nat} {v0 v : Value} {l : List Nat} (h : Rw w w' base v0 v l) (o : Obj) : Rw w (w'.alloc o) base v0 v l := ⟨h.own.alloc o, grown_alloc h.grown o, h.same⟩
theorem Rw.step {w b c : World} {base : Nat} {v0 v v' : Value} {l l' : List Nat} {n' : Nat} {xs : List Value} (h : Rw w b base v0 v l) (ho : c.ownsRow base 5 1 v' n' xs) (hg : b.grownBy c v.ownBlock) (hs : v'.ownBlock = v.ownBlock ∨ v'.ownBlock = some b.heap.size) (e : xs = cellsL l') : Rw w c base v0 v' l' := by
  subst e
  have hn : n' = l'.length := by have := ho.1; rw [cellsL_len] at this; omega
  subst hn
  refine ⟨ho, ?_, ?_⟩
  · rcases h.same with h1 | ⟨g, h1, h2⟩
    · rw [h1] at hg; exact grown_trans h.grown hg
    · rw [h1] at hg
      exact ⟨hg.os.trans h.grown.os, hg.tape.trans h.grown.tape, hg.output.trans h.grown.output, Nat.le_trans h.grown.size hg.size, fun i hi hne => (hg.block i (Nat.lt_of_lt_of_le hi h.grown.size) (by simp; omega)).trans (h.grown.block i hi hne)⟩
  · rcases hs with h1 | h1
    · rw [h1]; exact h.same
    · exact .inr ⟨_, h1, h.grown.size⟩
section
variable {P : Program}
end
set_option maxRecDepth 100000 in
set_option maxHeartbeats 1000000 in
theorem appLen_any (v : Value) (n base : Nat) (xs : List Nat) (w : World) (ho : w.ownsRow base 5 1 v xs.length (cellsL xs)) (hb : base ≤ w.heap.size) (hm : xs.length ≤ 1099511620000) (hn : n ≤ 65530) :
    Calls Tryz.prog 100 #[v, .int .i64 n] w fun e w' => ∃ v', e = .returned v' ∧ Rw w w' base v v' (xs ++ Tl.lenB n) := by
  have HM := Lib.hid (more_any n (by omega) w)
  have R0 := Lib.hid (Rw.start ho)
  clear ho
  by_cases h1 : n < 128
  · have e0 : Tl.more n = 0 := by unfold Tl.more; rw [if_pos h1]
    have HX := Lib.hid (lenB1 h1)
    rw [e0] at HM
    clear e0
    go_enter Tryz.func100, Tryz.ntmps100
    go_wp2_with (first
      | (go_at_call 114; refine HM.out.mono ?_; rintro e w2 ⟨rfl, hw2⟩; have hw2' := hw2.symm; subst hw2'; clear hw2)
      | (at_builtin; refine wpList_app1q (by rfl) (.tmp 11) (.tmp 14) 58 (by rfl) base 5 (.int .u8 0) 1 Tryz.underlying58 (by kernel_rfl) rfl (by decide) _ _ _ (by rfl) (R0.out.alloc _).own _ n _ _ _ (by rfl) (alloc_at _ _) (by simp) (by omega) (by omega) (by rw [alloc_size]; omega) ?_; intro v2 w2 ho2 hg2 hs2; have R2 := Lib.hid ((R0.out.alloc _).step (l' := xs ++ [n]) ho2 hg2 hs2 (cellsL_append _ _).symm); clear ho2 hg2 hs2))
    go_ret
    exact ⟨_, rfl, by rw [HX.out]; exact R2.out⟩
  · by_cases h2 : n < 256
    · have e0 : Tl.more n = 1 := by unfold Tl.more; rw [if_neg h1, if_pos h2]
      have HX := Lib.hid (lenB2 h1 h2)
      rw [e0] at HM
      clear e0
      go_enter Tryz.func100, Tryz.ntmps100
      go_wp2_with (first
        | (go_at_call 114; refine HM.out.mono ?_; rintro e w2 ⟨rfl, hw2⟩; have hw2' := hw2.symm; subst hw2'; clear hw2)
        | (at_builtin; refine wpList_app1q (by rfl) (.tmp 16) (.tmp 20) 58 (by rfl) base 5 (.int .u8 0) 1 Tryz.underlying58 (by kernel_rfl) rfl (by decide) _ _ _ (by rfl) (R0.out.alloc _).own _ 129 _ _ _ (by rfl) (alloc_at _ _) (by simp) (by omega) (by omega) (by rw [alloc_size]; omega) ?_; intro v2 w2 ho2 hg2 hs2; have R2 := Lib.hid ((R0.out.alloc _).step (l' := xs ++ [129]) ho2 hg2 hs2 (cellsL_append _ _).symm); clear ho2 hg2 hs2))
      refine wp_loop_rounds 2 ?_
      rw [rounds_succ]
      have b2 : base ≤ w2.heap.size := Nat.le_trans hb R2.out.grown.size
      go_wp2_with (at_builtin; refine wpList_app1q (by rfl) (.tmp 28) (.tmp 34) 58 (by rfl) base 5 (.int .u8 0) 1 Tryz.underlying58 (by kernel_rfl) rfl (by decide) _ _ _ (by rfl) (R2.out.alloc _).own _ n _ _ _ (by rfl) (alloc_at _ _) (by simp) (by omega) (by rw [List.length_append]; simp; omega) (by rw [alloc_size]; omega) ?_; intro v3 w3 ho3 hg3 hs3; have R3 := Lib.hid ((R2.out.alloc _).step (l' := xs ++ [129] ++ [n]) ho3 hg3 hs3 (cellsL_append _ _).symm); clear ho3 hg3 hs3)
      rw [rounds_succ]
      go_wp2
      go_ret
      exact ⟨_, rfl, by rw [HX.out]; have := R3.out; rwa [List.append_assoc] at this⟩
    · have e0 : Tl.more n = 2 := by unfold Tl.more; rw [if_neg h1, if_neg h2, if_pos (by omega)]
      have HX := Lib.hid (lenB3 h2 (by omega))
      rw [e0] at HM
      have hq : n / 256 < 256 := by omega
      have hq2 : (n : Int) / 256 < 256 := by omega
      have hn1 : n % 256 < 256 := by omega
      have HN := Lib.hid hn
      clear e0 h1 h2 hn
      go_enter Tryz.func100, Tryz.ntmps100
      go_wp2_with (first
        | (go_at_call 114; refine HM.out.mono ?_; rintro e w2 ⟨rfl, hw2⟩; have hw2' := hw2.symm; subst hw2'; clear hw2)
        | (at_builtin; refine wpList_app1q (by rfl) (.tmp 16) (.tmp 20) 58 (by rfl) base 5 (.int .u8 0) 1 Tryz.underlying58 (by kernel_rfl) rfl (by decide) _ _ _ (by rfl) (R0.out.alloc _).own _ (130) _ _ _ (by rfl) (alloc_at _ _) (by simp) (by omega) (by simp; omega) (by have := R0.out.grown.size; rw [alloc_size]; omega) ?_; intro v2 w2 ho hg hs; have R2 := Lib.hid ((R0.out.alloc _).step (l' := xs ++ [130]) ho hg hs (cellsL_append _ _).symm); clear ho hg hs))
      refine wp_loop_rounds 3 ?_
      rw [rounds_succ]
      go_wp2_with (at_builtin; refine wpList_app1q (by rfl) (.tmp 28) (.tmp 34) 58 (by rfl) base 5 (.int .u8 0) 1 Tryz.underlying58 (by kernel_rfl) rfl (by decide) _ _ _ (by rfl) (R2.out.alloc _).own _ (n / 256) _ _ _ (by rfl) (alloc_at _ _) (by simp) (by omega) (by simp; omega) (by have := R2.out.grown.size; rw [alloc_size]; omega) ?_; intro v3 w3 ho hg hs; have R3 := Lib.hid ((R2.out.alloc _).step (l' := xs ++ [130] ++ [n / 256]) ho hg hs (cellsL_append _ _).symm); clear ho hg hs)
      rw [rounds_succ]
      go_wp2_with (at_builtin; refine wpList_app1q (by rfl) (.tmp 28) (.tmp 34) 58 (by rfl) base 5 (.int .u8 0) 1 Tryz.underlying58 (by kernel_rfl) rfl (by decide) _ _ _ (by rfl) (R3.out.alloc _).own _ (n % 256) _ _ _ (by rfl) (alloc_at _ _) (by simp) (by omega) (by simp; omega) (by have := R3.out.grown.size; rw [alloc_size]; omega) ?_; intro v4 w4 ho hg hs; have R4 := Lib.hid ((R3.out.alloc _).step (l' := xs ++ [130] ++ [n / 256] ++ [n % 256]) ho hg hs (cellsL_append _ _).symm); clear ho hg hs)
      rw [rounds_succ]
      go_wp2
      go_ret
      exact ⟨_, rfl, by rw [HX.out]; have := R4.out; simp only [List.append_assoc, List.cons_append, List.nil_append] at this; exact this⟩
end Go.Proofs.YtihioekepflpiaaGreatDoor
namespace Go.Proofs.YtihioekepflpiaaGreatDoor
open Go.RowKit
theorem ownsRow_low {w : World} {base base' : Nat} {e : TypeId} {size : Nat} {v : Value} {n : Nat} {xs : List Value} (h : w.ownsRow base' e size v n xs) (hb : base ≤ base') : w.ownsRow base e size v n xs := by
  refine ⟨h.1, ?_⟩
  rcases h.2 with h1 | ⟨g, cap, cur, h1, h2, h3⟩
  · exact .inl h1
  · exact .inr ⟨g, cap, cur, h1, Nat.le_trans hb h2, h3⟩
theorem FrW.of {w w1 w' : World} {v : Value} {l : List Nat} (h : FrW w1 w' v l) (hg : w.grownBy w1 none) : FrW w w' v l := ⟨grown_trans hg h.grown, ownsRow_low h.own hg.size⟩
/-- What Put answers. -/
def PutPost (A : Nat → Addr) (w w' : World) (t : Int) (l : List Nat) (e : Ending) : Prop :=
  if Tl.known t = false then e = .returned (.tuple #[.slice none 0 0, errV A 5])
  else if 65530 < l.length then e = .returned (.tuple #[.slice none 0 0, errV A 3])
  else ∃ u, e = .returned (.tuple #[u, .nilIface]) ∧ FrW w w' u (Tl.elem t.toNat l)
set_option maxRecDepth 100000 in
set_option maxHeartbeats 1000000 in
theorem tput_any (A : Nat → Addr) (t : Int) (v : Value) (l : List Nat) (w : World) (hB : Bytes w v l) (h0 : Whole0 v) (hl : l.length ≤ 1099511620000) (hE : AllErrs w A) :
    Calls Tryz.prog 76 #[.agg #[.int .i64 t, v]] w fun e w' => PutPost A w w' t l e ∧ w.grownBy w' none := by
  have HED : Hid (∀ W, w.grownBy W none → W.cell? ⟨6, 0, none⟩ = some (errV A 5) ∧ W.cell? ⟨4, 0, none⟩ = some (errV A 3)) := Lib.hid (fun W hW => by
    have hEE := hE.grown hW
    have e5 := errs_at hEE 5 (by decide)
    have e3 := errs_at hEE 3 (by decide)
    simp only [errVars, List.getD_cons_zero, List.getD_cons_succ, Nat.add_one_sub_one] at e5 e3
    exact ⟨e5, e3⟩)
  have HK := Lib.hid (known_any t)
  have HB := Lib.hid hB
  have H0 := Lib.hid h0
  have hkn := fun h => Tl.known_nat t h
  obtain ⟨_, va, vsb, vso, vc, rfl, _⟩ := hB
  obtain ⟨n, hn⟩ : ∃ n, n = l.length := ⟨_, rfl⟩
  have HN := Lib.hid hn
  rw [← hn] at HB H0 hl ⊢
  clear hE h0 hn
  cases hk : Tl.known t with
  | false =>
    have HX : Hid (∀ e w', e = Ending.returned (.tuple #[.slice none 0 0, errV A 5]) → PutPost A w w' t l e) := Lib.hid (fun e w' h => by unfold PutPost; rw [if_pos hk]; exact h)
    rw [hk] at HK
    have eT := fun o => (HED.out (w.alloc o) (World.grownBy_alloc _ _ _)).1
    clear hk hkn
    go_enter Tryz.func76, Tryz.ntmps76
    go_wp2_with (go_at_call 98; refine (HK.out _).mono ?_; rintro e w2 ⟨rfl, rfl⟩)
    go_quiet (fail)
    go_wp2
    go_ret2
    exact ⟨HX.out _ _ rfl, grown_drewN (World.grownBy_alloc _ _ _) _⟩
  | true =>
    have hkt := hkn hk
    by_cases hbig : 65530 < n
    · have HX : Hid (∀ e w', e = Ending.returned (.tuple #[.slice none 0 0, errV A 3]) → PutPost A w w' t l e) := Lib.hid (fun e w' h => by unfold PutPost; rw [if_neg (by rw [hk]; simp), if_pos (by rw [← HN.out]; exact hbig)]; exact h)
      rw [hk] at HK
      have eL := fun o => (HED.out (w.alloc o) (World.grownBy_alloc _ _ _)).2
      have d1 : decide ((65530 : Int) < (n : Int)) = true := decide_eq_true (by omega)
      clear hk hkn hbig
      go_enter Tryz.func76, Tryz.ntmps76
      go_wp2_with (go_at_call 98; refine (HK.out _).mono ?_; rintro e w2 ⟨rfl, rfl⟩)
      go_quiet (fail)
      go_wp2
      go_ret2
      exact ⟨HX.out _ _ rfl, grown_drewN (World.grownBy_alloc _ _ _) _⟩
    · obtain ⟨k, rfl⟩ : ∃ k : Nat, t = k := ⟨t.toNat, by omega⟩
      have HX : Hid (∀ e w', (∃ u, e = Ending.returned (.tuple #[u, .nilIface]) ∧ FrW w w' u (Tl.elem k l)) → PutPost A w w' (k : Int) l e) := Lib.hid (fun e w' h => by unfold PutPost; rw [if_neg (by rw [hk]; simp), if_neg (by rw [← HN.out]; exact hbig), Int.toNat_natCast]; exact h)
      rw [hk] at HK
      have hk256 : k < 256 := by omega
      have hsz : Tl.size (n : Int) = 2 + Tl.more n + n := by rw [Tl.size, if_pos (by omega), Int.toNat_natCast]
      have hm4 := Tl.more_le n
      have HS := Lib.hid (size_anyT (n : Int))
      have hszb : Hid (Tl.size (n : Int) ≤ 70000) := Lib.hid (by omega)
      have HLn : Hid ((Tl.lenB n).length ≤ 5) := Lib.hid (by rw [Tl.lenB_len]; omega)
      have HEl : Hid (Tl.elem k l = [k] ++ Tl.lenB n ++ l) := Lib.hid (by rw [Tl.elem, HN.out]; rfl)
      have HAL := Lib.hid (fun v base xs w a b c => appLen_any v n base xs w a b c (by omega))
      generalize Tl.size (n : Int) = sz at *
      generalize Tl.lenB n = ln at *
      have d1 : decide ((65530 : Int) < (n : Int)) = false := decide_eq_false (by omega)
      have hn' : n ≤ 65530 := by omega
      obtain ⟨iT, i1, i2, i3, i4⟩ := info_parts (P := Tryz.prog) (e := 5) (z := .int .u8 0) (size := 1) (bytes := 1) (by kernel_rfl)
      have Hi1 := Lib.hid i1
      have Hi2 := Lib.hid i2
      have Hi3 := Lib.hid i3
      have Hi4 := Lib.hid i4
      have Hn' := Lib.hid hn'
      clear i1 i2 i3 i4 hk hkn hkt hbig hsz hm4 hn' hl
      obtain ⟨w1, hw1⟩ : ∃ w1, w1 = w.alloc (.cells #[.int .i64 k, .slice va n vc] 129) := ⟨_, rfl⟩
      have G1 : Hid (w.grownBy w1 none) := Lib.hid (by rw [hw1]; exact World.grownBy_alloc _ _ _)
      have hb1 : w1.heap[w.heap.size]? = some (.cells #[.int .i64 k, .slice va n vc] 129 (0, 0)) := by rw [hw1]; exact alloc_at _ _
      obtain ⟨g, hg⟩ : ∃ g, g = w.heap.size := ⟨_, rfl⟩
      rw [← hg] at hb1
      have HBx : Hid (∀ W, w1.grownBy W none → W.cell? ⟨g, 0, none⟩ = some (.int .i64 (k : Int)) ∧ W.cell? ⟨g, 1, none⟩ = some (.slice va n vc)) := Lib.hid (fun W hW => by
        have hbW := (hW.block _ (blk_lt hb1) (by simp)).trans hb1
        exact ⟨cell_blk hbW 0 rfl, cell_blk hbW 1 rfl⟩)
      have HW1 := Lib.hid hw1
      have HG := Lib.hid hg
      have s0 := (HBx.out w1 (grown_refl _ _)).1
      have s1 := (HBx.out w1 (grown_refl _ _)).2
      have HSz := Lib.hid (show sz ≤ 70000 from hszb.out)
      clear hw1 hg hb1
      go_enter Tryz.func76, Tryz.ntmps76
      go_wp2_with (first
        | (go_at_call 98; rw [← HW1.out, ← HG.out]; refine (HK.out _).mono ?_; rintro e w2 ⟨rfl, hw2⟩; have hw2' := hw2.symm; subst hw2'; clear hw2)
        | (go_at_call 99; refine (HS.out _).mono ?_; rintro e w2 ⟨rfl, hw2⟩; have hw2' := hw2.symm; subst hw2'; clear hw2)
        | (refine wpList_make_own _ (by rfl) (.const (.int .i64 0)) (.tmp 18) 58 (by rfl) w1.heap.size 5 iT (.int .u8 0) 1 Tryz.underlying58 Hi1.out Hi2.out Hi3.out .i64 .i64 _ sz (by rfl) (by rfl) (by go_num) (by rw [Hi4.out]; have := HSz.out; omega) (by have := HSz.out; unfold maxLen; omega) (Nat.le_refl _) ?_; intro w3 ho3 hg3; have F3 := Lib.hid (FrW.mk (l := []) hg3 ho3); have s30 := (HBx.out w3 hg3).1; have s31 := (HBx.out w3 hg3).2; clear ho3 hg3)
        | (at_builtin; refine wpList_app1 (by rfl) (.tmp 20) (.tmp 24) 58 (by rfl) w1.heap.size 5 (.int .u8 0) 1 Tryz.underlying58 (by kernel_rfl) rfl (by decide) _ 0 [] (by rfl) (F3.out.own.alloc _) ⟨_, 0, none⟩ _ (by rfl) (cell_blk (alloc_at _ _) 0 rfl) rfl (by omega) (by have := F3.out.le; rw [alloc_size]; omega) ?_; intro v4 w4 ho4 hg4; have F4 := Lib.hid ((F3.out.alloc _).step (l' := [k]) ho4 hg4 rfl); have s40 := (HBx.out w4 F4.out.grown).1; have s41 := (HBx.out w4 F4.out.grown).2; clear ho4 hg4)
        | (go_at_call 100; refine (HAL.out v4 w1.heap.size [k] w4 F4.out.own F4.out.le (by simp)).mono ?_; rintro e w5 ⟨v5, rfl, hR⟩; have F5 := Lib.hid (F4.out.step (l' := [k] ++ ln) hR.own hR.grown rfl); have s50 := (HBx.out w5 F5.out.grown).1; have s51 := (HBx.out w5 F5.out.grown).2; clear hR)
        | (at_builtin; refine wpList_appB (by rfl) (.tmp 31) (.tmp 33) 58 (by rfl) w1.heap.size 5 (.int .u8 0) 1 Tryz.underlying58 (by kernel_rfl) rfl (by decide) _ _ _ (by rfl) F5.out.own _ l (by rfl) (HB.out.grown (grown_trans G1.out F5.out.grown)) H0.out (by rw [List.length_append, ← HN.out]; have := HLn.out; have := Hn'.out; simp; omega) F5.out.le ?_; intro v6 w6 ho6 hg6; have F6 := Lib.hid (F5.out.step (l' := [k] ++ ln ++ l) ho6 hg6 (cellsL_append _ _).symm); clear ho6 hg6))
      go_ret2
      exact ⟨HX.out _ _ ⟨_, rfl, by rw [HEl.out]; exact F6.out.of G1.out⟩, grown_trans G1.out F6.out.grown⟩
end Go.Proofs.YtihioekepflpiaaGreatDoor
