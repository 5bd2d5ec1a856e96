/- The walks of tlv's appendLength and Put. -/
import Derived.Test.YtndgbhgalablfaaDoorTl8
import Derived.Test.YtndgbhgalablfaaDoorAp2
namespace Go.Proofs.YtndgbhgalablfaaDoor
open Go.RowKit

/-- A length's bytes from the high one on, all but the last i. -/
theorem be_at : ∀ (k n j : Nat), j < k → (Tl.be k n).getD j 0 = n / 256 ^ (k - 1 - j) % 256
  | 0, n, j, h => absurd h (Nat.not_lt_zero _)
  | k + 1, n, 0, h => by simp [Tl.be]
  | k + 1, n, j + 1, h => by
    rw [Tl.be, List.getD_cons_succ, be_at k n j (by omega)]
    congr 3
    omega
theorem be_take_succ (k n j : Nat) (h : j < k) : (Tl.be k n).take (j + 1) = (Tl.be k n).take j ++ [n / 256 ^ (k - 1 - j) % 256] := by
  have hl : j < (Tl.be k n).length := by rw [Tl.be_len]; exact h
  rw [List.take_add_one, List.getElem?_eq_getElem hl, ← be_at k n j h, List.getD_eq_getElem?_getD, List.getElem?_eq_getElem hl]
  rfl

/-- From w on a row of the call's own is v, holds l, and what else there was stands: but for the row that v0 was. -/
structure Rw (w w' : World) (base : Nat) (v0 v : Value) (l : List Nat) : Prop where
  own : w'.ownsRow base 5 1 v l.length (cellsL l)
  grown : w.grownBy w' v0.ownBlock
  same : v.ownBlock = v0.ownBlock ∨ ∃ g, v.ownBlock = some g ∧ w.heap.size ≤ g
theorem Rw.start {w : World} {base : Nat} {v : Value} {l : List Nat} {m : Nat} (h : w.ownsRow base 5 1 v m (cellsL l)) : Rw w w base v v l := by
  have hm : m = l.length := by have := h.1; simpa [cellsL] using this.symm
  subst hm
  exact ⟨h, grown_refl _ _, .inl rfl⟩
theorem Rw.alloc {w w' : World} {base : Nat} {v0 v : Value} {l : List Nat} (h : Rw w w' base v0 v l) (o : Obj) : Rw w (w'.alloc o) base v0 v l := ⟨h.own.alloc o, grown_alloc h.grown o, h.same⟩
theorem Rw.step {w b c : World} {base : Nat} {v0 v v' : Value} {l l' : List Nat} {n' : Nat} {xs : List Value} (h : Rw w b base v0 v l) (ho : c.ownsRow base 5 1 v' n' xs) (hg : b.grownBy c v.ownBlock) (hs : v'.ownBlock = v.ownBlock ∨ v'.ownBlock = some b.heap.size) (e : xs = cellsL l') : Rw w c base v0 v' l' := by
  subst e
  have hn : n' = l'.length := by have := ho.1; rw [cellsL_len] at this; omega
  subst hn
  refine ⟨ho, ?_, ?_⟩
  · rcases h.same with h1 | ⟨g, h1, h2⟩
    · rw [h1] at hg; exact grown_trans h.grown hg
    · rw [h1] at hg
      exact ⟨hg.os.trans h.grown.os, hg.tape.trans h.grown.tape, hg.output.trans h.grown.output, Nat.le_trans h.grown.size hg.size, fun i hi hne => (hg.block i (Nat.lt_of_lt_of_le hi h.grown.size) (by simp; omega)).trans (h.grown.block i hi hne)⟩
  · rcases hs with h1 | h1
    · rw [h1]; exact h.same
    · exact .inr ⟨_, h1, h.grown.size⟩

section
variable {P : Program}
/-- 'append(s, x)', x one byte that was just boxed; and where the answer's row lies. -/
theorem wpList_app1s {w : World} {ops : Array Oper} {rest : List Oper} {o : Oper} {a : Act} {Q : Exit → Act → World → Prop} (hgd : o.guard = none) (s x : Operand) (t : TypeId)
    (ho : o.op = .call { callee := .builtin .append, args := #[s, x], argTypes := #[t, t] })
    (base : Nat) (e : TypeId) (z : Value) (bytes : Nat) (ht : P.underlying t = some (.slice e)) (hi : (P.info? e).map (fun i => (i.zero, i.size, i.bytes)) = some (some z, 1, bytes)) (hzs : z.cells.size = 1) (hby : bytes ≤ 64)
    (v : Value) (n : Nat) (xs : List Value) (hs : a.eval s = v) (hown : w.ownsRow base e 1 v n xs)
    (g k : Nat) (cs : Array Value) (t' : TypeId) (fr : Nat × Nat) (hx : a.eval x = .slice (some ⟨g, 0, none⟩) 1 1) (hg : w.heap[g]? = some (.cells cs t' fr)) (hc : cs = #[.int .u8 (k : Nat)]) (hk : k < 256)
    (h63 : n + 1 ≤ 1099511627776) (hbase : base ≤ w.heap.size)
    (h : ∀ v' w', w'.ownsRow base e 1 v' (n + 1) (xs ++ cellsL [k]) → w.grownBy w' v.ownBlock → (v'.ownBlock = v.ownBlock ∨ v'.ownBlock = some w.heap.size) → wpList P ops Q rest (a.put o.dst v') w') : wpList P ops Q (o :: rest) a w := by
  subst hc
  exact wpList_appB2 hgd s x t ho base e z bytes ht hi hzs hby v n xs hs hown _ [k] hx (Bytes.lit (l := [k]) hg (by simpa using hk)) (Whole0.some _ _ _) h63 hbase h
end

set_option maxRecDepth 100000 in
set_option maxHeartbeats 1000000 in
theorem appLen_any (v : Value) (n base : Nat) (xs : List Nat) (w : World) (ho : w.ownsRow base 5 1 v xs.length (cellsL xs)) (hb : base ≤ w.heap.size) (hm : xs.length ≤ 1099511620000) (hn : n ≤ 65530) :
    Calls Tryd.prog 41 #[v, .int .i64 n] w fun e w' => ∃ v', e = .returned v' ∧ Rw w w' base v v' (xs ++ Tl.lenB n) := by
  have HM := Lib.hid (more_any n (by omega) w)
  have R0 := Lib.hid (Rw.start ho)
  clear ho
  by_cases h1 : n < 128
  · have e0 : Tl.more n = 0 := by unfold Tl.more; rw [if_pos h1]
    have HX := Lib.hid (lenB1 h1)
    rw [e0] at HM
    clear e0
    go_enter Tryd.func41, Tryd.ntmps41
    go_wp2_with (first
      | (go_at_call 42; refine HM.out.mono ?_; rintro e w2 ⟨rfl, hw2⟩; have hw2' := hw2.symm; subst hw2'; clear hw2)
      | (at_builtin; refine wpList_app1s (by rfl) (.tmp 11) (.tmp 14) 22 (by rfl) base 5 (.int .u8 0) 1 Tryd.underlying22 (by kernel_rfl) rfl (by decide) _ _ _ (by rfl) (R0.out.alloc _).own _ n _ _ _ (by rfl) (alloc_at _ _) (by simp) (by omega) (by omega) (by rw [alloc_size]; omega) ?_; intro v2 w2 ho2 hg2 hs2; have R2 := Lib.hid ((R0.out.alloc _).step (l' := xs ++ [n]) ho2 hg2 hs2 (cellsL_append _ _).symm); clear ho2 hg2 hs2))
    go_ret
    exact ⟨_, rfl, by rw [HX.out]; exact R2.out⟩
  · by_cases h2 : n < 256
    · have e0 : Tl.more n = 1 := by unfold Tl.more; rw [if_neg h1, if_pos h2]
      have HX := Lib.hid (lenB2 h1 h2)
      rw [e0] at HM
      clear e0
      go_enter Tryd.func41, Tryd.ntmps41
      go_wp2_with (first
        | (go_at_call 42; refine HM.out.mono ?_; rintro e w2 ⟨rfl, hw2⟩; have hw2' := hw2.symm; subst hw2'; clear hw2)
        | (at_builtin; refine wpList_app1s (by rfl) (.tmp 16) (.tmp 20) 22 (by rfl) base 5 (.int .u8 0) 1 Tryd.underlying22 (by kernel_rfl) rfl (by decide) _ _ _ (by rfl) (R0.out.alloc _).own _ 129 _ _ _ (by rfl) (alloc_at _ _) (by simp) (by omega) (by omega) (by rw [alloc_size]; omega) ?_; intro v2 w2 ho2 hg2 hs2; have R2 := Lib.hid ((R0.out.alloc _).step (l' := xs ++ [129]) ho2 hg2 hs2 (cellsL_append _ _).symm); clear ho2 hg2 hs2))
      refine wp_loop_rounds 2 ?_
      rw [rounds_succ]
      have b2 : base ≤ w2.heap.size := Nat.le_trans hb R2.out.grown.size
      go_wp2_with (at_builtin; refine wpList_app1s (by rfl) (.tmp 28) (.tmp 34) 22 (by rfl) base 5 (.int .u8 0) 1 Tryd.underlying22 (by kernel_rfl) rfl (by decide) _ _ _ (by rfl) (R2.out.alloc _).own _ n _ _ _ (by rfl) (alloc_at _ _) (by simp) (by omega) (by rw [List.length_append]; simp; omega) (by rw [alloc_size]; omega) ?_; intro v3 w3 ho3 hg3 hs3; have R3 := Lib.hid ((R2.out.alloc _).step (l' := xs ++ [129] ++ [n]) ho3 hg3 hs3 (cellsL_append _ _).symm); clear ho3 hg3 hs3)
      rw [rounds_succ]
      go_wp2
      go_ret
      exact ⟨_, rfl, by rw [HX.out]; have := R3.out; rwa [List.append_assoc] at this⟩
    · have e0 : Tl.more n = 2 := by unfold Tl.more; rw [if_neg h1, if_neg h2, if_pos (by omega)]
      have HX := Lib.hid (lenB3 h2 (by omega))
      rw [e0] at HM
      have hq : n / 256 < 256 := by omega
      have hq2 : (n : Int) / 256 < 256 := by omega
      have hn1 : n % 256 < 256 := by omega
      have HN := Lib.hid hn
      clear e0 h1 h2 hn
      go_enter Tryd.func41, Tryd.ntmps41
      go_wp2_with (first
        | (go_at_call 42; refine HM.out.mono ?_; rintro e w2 ⟨rfl, hw2⟩; have hw2' := hw2.symm; subst hw2'; clear hw2)
        | (at_builtin; refine wpList_app1s (by rfl) (.tmp 16) (.tmp 20) 22 (by rfl) base 5 (.int .u8 0) 1 Tryd.underlying22 (by kernel_rfl) rfl (by decide) _ _ _ (by rfl) (R0.out.alloc _).own _ (130) _ _ _ (by rfl) (alloc_at _ _) (by simp) (by omega) (by simp; omega) (by have := R0.out.grown.size; rw [alloc_size]; omega) ?_; intro v2 w2 ho hg hs; have R2 := Lib.hid ((R0.out.alloc _).step (l' := xs ++ [130]) ho hg hs (cellsL_append _ _).symm); clear ho hg hs))
      refine wp_loop_rounds 3 ?_
      rw [rounds_succ]
      go_wp2_with (at_builtin; refine wpList_app1s (by rfl) (.tmp 28) (.tmp 34) 22 (by rfl) base 5 (.int .u8 0) 1 Tryd.underlying22 (by kernel_rfl) rfl (by decide) _ _ _ (by rfl) (R2.out.alloc _).own _ (n / 256) _ _ _ (by rfl) (alloc_at _ _) (by simp) (by omega) (by simp; omega) (by have := R2.out.grown.size; rw [alloc_size]; omega) ?_; intro v3 w3 ho hg hs; have R3 := Lib.hid ((R2.out.alloc _).step (l' := xs ++ [130] ++ [n / 256]) ho hg hs (cellsL_append _ _).symm); clear ho hg hs)
      rw [rounds_succ]
      go_wp2_with (at_builtin; refine wpList_app1s (by rfl) (.tmp 28) (.tmp 34) 22 (by rfl) base 5 (.int .u8 0) 1 Tryd.underlying22 (by kernel_rfl) rfl (by decide) _ _ _ (by rfl) (R3.out.alloc _).own _ (n % 256) _ _ _ (by rfl) (alloc_at _ _) (by simp) (by omega) (by simp; omega) (by have := R3.out.grown.size; rw [alloc_size]; omega) ?_; intro v4 w4 ho hg hs; have R4 := Lib.hid ((R3.out.alloc _).step (l' := xs ++ [130] ++ [n / 256] ++ [n % 256]) ho hg hs (cellsL_append _ _).symm); clear ho hg hs)
      rw [rounds_succ]
      go_wp2
      go_ret
      exact ⟨_, rfl, by rw [HX.out]; have := R4.out; simp only [List.append_assoc, List.cons_append, List.nil_append] at this; exact this⟩
end Go.Proofs.YtndgbhgalablfaaDoor
