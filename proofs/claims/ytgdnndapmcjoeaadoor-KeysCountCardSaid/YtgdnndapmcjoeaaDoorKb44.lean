import Derived.Test.YtgdnndapmcjoeaaDoorKb42
namespace Go.Proofs.YtgdnndapmcjoeaaDoor
open Go.RowKit Go.Maps
set_option linter.unusedVariables false
section
variable {P : Program} {a : Act} {o : Oper} {w : World}
theorem kextract_val {x : Operand} {i : Nat} {vs : Array Value} {v : Value} (ho : o.op = .extract x i) (hx : a.eval x = .tuple vs) (h : (Instr.extract (.tuple vs) i).run P w = .ok v w) : (execOp a.eval o).run P w = .ok (.value v) w := by
  simp [execOp, ho, hx, h, Result.andThen]
theorem keqlint_val {t r : TypeId} {x y : Operand} {k : IntKind} {s : Int} (ho : o.op = .binOp .eql t x y r) (hx : a.eval x = .int k s) (hy : a.eval y = .int k s) : (execOp a.eval o).run P w = .ok (.value (.bool true)) w := by
  simp only [execOp, ho, hx, hy]
  simp [go_sem, eqGuard, Sem.run_pure, binOp]
end
noncomputable def kcRegion26 : Code := kRegion Tryd.f5.body 26
noncomputable def kcRegion32 : Code := kRegion Tryd.f5.body 32
theorem kIdxS (b6 k : Nat) (hk : k < 3) (w : World) : (Instr.indexAt 56 (.pointer (some ⟨b6, 0, none⟩)) (.int .i64 (k : Int))).run Tryd.prog w = .ok (.pointer (some ⟨b6, k, none⟩)) w := by
  have h1 : (0 : Int) ≤ (k : Int) := by omega
  have h2 : (k : Int) < 3 := by omega
  simp [go_sem, h1, h2]
theorem kEx (u er : Value) (i : Nat) (v : Value) (h : (#[u, er] : Array Value)[i]? = some v) (w : World) : (Instr.extract (.tuple #[u, er]) i).run Tryd.prog w = .ok v w := by
  simp [go_sem, Instr.extract, h]
def r26F (b q b6 b14 : Nat) (sv dv mv er : Value) (Dn : World → Prop) (j : Nat) (x : Value) (w : World) : Prop :=
  if j = 8 then (∃ u, x = .tuple #[u, er]) ∧ Dn w else if j = 9 then (∃ u, x = .tuple #[u, er]) ∧ Dn w else if j = 10 then True else if j = 11 then x = er ∧ Dn w else if j = 12 then True
  else x = [Value.pointer (some ⟨b, 0, none⟩), .int .i64 (q : Int), .pointer (some ⟨b6, q, none⟩), sv, .pointer (some ⟨b14, 1, none⟩), dv, .pointer (some ⟨b14, 2, none⟩), mv].getD j undef
theorem r26F_stays {b q b6 b14 : Nat} {sv dv mv er : Value} {Dn : World → Prop} {j : Nat} {x : Value} {w w' : World} (hD : Dn w → Dn w') (h : r26F b q b6 b14 sv dv mv er Dn j x w) : r26F b q b6 b14 sv dv mv er Dn j x w' := by
  unfold r26F at h ⊢
  by_cases h8 : j = 8
  · rw [if_pos h8] at h ⊢; exact ⟨h.1, hD h.2⟩
  · rw [if_neg h8] at h ⊢
    by_cases h9 : j = 9
    · rw [if_pos h9] at h ⊢; exact ⟨h.1, hD h.2⟩
    · rw [if_neg h9] at h ⊢
      by_cases h10 : j = 10
      · rw [if_pos h10]; trivial
      · rw [if_neg h10] at h ⊢
        by_cases h11 : j = 11
        · rw [if_pos h11] at h ⊢; exact ⟨h.1, hD h.2⟩
        · rw [if_neg h11] at h ⊢; exact h
set_option maxRecDepth 100000 in
set_option maxHeartbeats 1000000 in
theorem kc_region26 (a : Act) (b q b6 b14 : Nat) (hq : q < 3) (I d : ByteArray) (xa : Option Addr) (xl xc : Nat) (er : Value) (Cw Dn : World → Prop) (w : World) (Q : Exit → Act → World → Prop) (hsz : a.tmps.size = 181)
    (h5 : a.eval (.tmp 5) = .pointer (some ⟨b, 0, none⟩)) (h15 : a.eval (.tmp 15) = .int .i64 (q : Int)) (h6 : a.eval (.tmp 6) = .pointer (some ⟨b6, 0, none⟩)) (h14 : a.eval (.tmp 14) = .pointer (some ⟨b14, 0, none⟩))
    (ci : ∀ w, Cw w → w.cell? ⟨b6, q, none⟩ = some (.string I)) (c1 : ∀ w, Cw w → w.cell? ⟨b14, 1, none⟩ = some (.string d)) (c2 : ∀ w, Cw w → w.cell? ⟨b14, 2, none⟩ = some (.slice xa xl xc)) (hD : ∀ w, Dn w → Cw w)
    (hS : ∀ w, Cw w → Calls Tryd.prog 19 #[.pointer (some ⟨b, 0, none⟩), .string I, .string d, .slice xa xl xc] w fun e w' => (∃ u, e = .returned (.tuple #[u, er])) ∧ Dn w')
    (hw : Cw { w with drawn := w.drawn + 1 })
    (hQ : ∀ us w', Dn w' → Q .normal ((fill a [96, 97, 98, 99, 100, 101, 102, 103, 104, 95, 105, 106, 16] us).put (some 17) er) w') : kcRegion26.wp Tryd.prog Q a w := by
  have hcf : ∀ args w, (callFunc 19 args).run Tryd.prog w = .ok (.enter 19 args) w := fun _ _ => by simp [go_sem]
  conv => arg 2; whnf
  refine wp_region_flow 13 [96, 97, 98, 99, 100, 101, 102, 103, 104, 95, 105, 106, 16] Cw (fun w w' => Cw w' ∧ (Dn w → Dn w')) (r26F b q b6 b14 (.string I) (.string d) (.slice xa xl xc) er Dn) (by kernel_rfl) (by kernel_rfl) (fun _ _ h _ => h.1) (fun _ _ _ _ h k => r26F_stays h.2 k) hw ?_ ?_
  · refine ⟨?_, ?_, ?_, ?_, ?_, ?_, ?_, ?_, ?_, ?_, ?_, ?_, ?_, trivial⟩
    · exact flow_step (fun us w hC hd => wants_free rfl) (fun us w hC hd => ⟨_, w, move_val rfl ((fill_old (by rfl)).trans h5), ⟨hC, id⟩, rfl⟩)
    · exact flow_step (fun us w hC hd => wants_free rfl) (fun us w hC hd => ⟨_, w, move_val rfl ((fill_old (by rfl)).trans h15), ⟨hC, id⟩, rfl⟩)
    · exact flow_step (fun us w hC hd => wants_free rfl) (fun us w hC hd => ⟨_, w, kidx_val rfl ((fill_old (by rfl)).trans h6) ((fill_tmp (by rfl) (by rw [hsz]; decide)).trans (hd 1 (by decide))) (kIdxS b6 q hq w), ⟨hC, id⟩, rfl⟩)
    · exact flow_step (fun us w hC hd => wants_free rfl) (fun us w hC hd => ⟨_, w, kload_val rfl ((fill_tmp (by rfl) (by rw [hsz]; decide)).trans (hd 2 (by decide))) (kLoadS (ci w hC)), ⟨hC, id⟩, rfl⟩)
    · exact flow_step (fun us w hC hd => wants_free rfl) (fun us w hC hd => ⟨_, w, kfield_val rfl ((fill_old (by rfl)).trans h14) (kField b14 1 (.inl rfl) w), ⟨hC, id⟩, rfl⟩)
    · exact flow_step (fun us w hC hd => wants_free rfl) (fun us w hC hd => ⟨_, w, kload_val rfl ((fill_tmp (by rfl) (by rw [hsz]; decide)).trans (hd 4 (by decide))) (kLoadS (c1 w hC)), ⟨hC, id⟩, rfl⟩)
    · exact flow_step (fun us w hC hd => wants_free rfl) (fun us w hC hd => ⟨_, w, kfield_val rfl ((fill_old (by rfl)).trans h14) (kField b14 2 (.inr rfl) w), ⟨hC, id⟩, rfl⟩)
    · exact flow_step (fun us w hC hd => wants_free rfl) (fun us w hC hd => ⟨_, w, kload_val rfl ((fill_tmp (by rfl) (by rw [hsz]; decide)).trans (hd 6 (by decide))) (kLoadB (c2 w hC)), ⟨hC, id⟩, rfl⟩)
    · refine flow_call 19 (fun us => #[us 96, us 99, us 101, us 103]) (fun us w hC hd => wants_free rfl) (fun us w => by rw [call_enter rfl hcf, List.map_toArray, List.map_cons, List.map_cons, List.map_cons, List.map_cons, List.map_nil, fill_tmp (by rfl) (by rw [hsz]; decide), fill_tmp (by rfl) (by rw [hsz]; decide), fill_tmp (by rfl) (by rw [hsz]; decide), fill_tmp (by rfl) (by rw [hsz]; decide)]) (fun us w hC' hd => ?_)
      rw [show us 96 = .pointer (some ⟨b, 0, none⟩) from hd 0 (by decide), show us 99 = .string I from hd 3 (by decide), show us 101 = .string d from hd 5 (by decide), show us 103 = .slice xa xl xc from hd 7 (by decide)]
      refine (hS w hC').mono ?_
      rintro e w' ⟨⟨u, rfl⟩, hd'⟩
      exact ⟨_, rfl, ⟨hD _ hd', fun _ => hd'⟩, ⟨u, rfl⟩, hd'⟩
    · refine flow_step (fun us w hC hd => wants_free rfl) (fun us w hC hd => ?_)
      obtain ⟨⟨u, e1⟩, e2⟩ : (∃ u, us 104 = .tuple #[u, er]) ∧ Dn w := hd 8 (by decide)
      exact ⟨_, w, move_val rfl ((fill_tmp (by rfl) (by rw [hsz]; decide)).trans e1), ⟨hC, id⟩, ⟨u, rfl⟩, e2⟩
    · refine flow_step (fun us w hC hd => wants_free rfl) (fun us w hC hd => ?_)
      obtain ⟨⟨u, e1⟩, e2⟩ : (∃ u, us 95 = .tuple #[u, er]) ∧ Dn w := hd 9 (by decide)
      exact ⟨_, w, kextract_val rfl ((fill_tmp (by rfl) (by rw [hsz]; decide)).trans e1) (kEx u er 0 u rfl w), ⟨hC, id⟩, trivial⟩
    · refine flow_step (fun us w hC hd => wants_free rfl) (fun us w hC hd => ?_)
      obtain ⟨⟨u, e1⟩, e2⟩ : (∃ u, us 95 = .tuple #[u, er]) ∧ Dn w := hd 9 (by decide)
      exact ⟨_, w, kextract_val rfl ((fill_tmp (by rfl) (by rw [hsz]; decide)).trans e1) (kEx u er 1 er rfl w), ⟨hC, id⟩, rfl, e2⟩
    · exact flow_step (fun us w hC hd => wants_free rfl) (fun us w hC hd => ⟨_, w, assign_val rfl (fill_tmp (by rfl) (by rw [hsz]; decide)), ⟨hC, id⟩, trivial⟩)
  · intro us w' hC' hF
    obtain ⟨e11, hd⟩ : us 106 = er ∧ Dn w' := hF 11 (by decide)
    refine wpList_plain rfl fun K hK => ?_
    have : (fill a [96, 97, 98, 99, 100, 101, 102, 103, 104, 95, 105, 106, 16] us).eval (.tmp 106) = er := (fill_tmp (by rfl) (by rw [hsz]; decide)).trans e11
    unfold Oper.wp
    rw [assign_val rfl this]
    exact hK _ _ (hQ us w' hd)
def r32F (b k b6 b3 : Nat) (sv dv mv ev nv : Value) (j : Nat) (x : Value) (w : World) : Prop :=
  x = [Value.pointer (some ⟨b, 0, none⟩), .int .i64 (k : Int), .pointer (some ⟨b6, k, none⟩), sv, .pointer (some ⟨b3, 1, none⟩), dv, .pointer (some ⟨b3, 2, none⟩), mv, ev, nv, nv, .bool true].getD j undef
set_option maxRecDepth 100000 in
set_option maxHeartbeats 1000000 in
theorem kc_region32 (a : Act) (b k b6 b3 : Nat) (hk : k < 3) (I d : ByteArray) (va : Option Addr) (n vc : Nat) (ev : Value) (N : Nat) (W w : World) (Q : Exit → Act → World → Prop) (hsz : a.tmps.size = 181)
    (h5 : a.eval (.tmp 5) = .pointer (some ⟨b, 0, none⟩)) (h11 : a.eval (.tmp 11) = .int .i64 (k : Int)) (h6 : a.eval (.tmp 6) = .pointer (some ⟨b6, 0, none⟩)) (h3 : a.eval (.tmp 3) = .pointer (some ⟨b3, 0, none⟩)) (h19 : a.eval (.tmp 19) = .int .i64 (N : Int))
    (ci : ∀ w, W.grownBy w none → w.cell? ⟨b6, k, none⟩ = some (.string I)) (c1 : ∀ w, W.grownBy w none → w.cell? ⟨b3, 1, none⟩ = some (.string d)) (c2 : ∀ w, W.grownBy w none → w.cell? ⟨b3, 2, none⟩ = some (.slice va n vc))
    (hV : ∀ w, W.grownBy w none → Calls Tryd.prog 21 #[.pointer (some ⟨b, 0, none⟩), .string I, .string d, .slice va n vc, .slice none 0 0] w fun e w' => e = .returned ev ∧ w.grownBy w' none)
    (hN : ∀ w, W.grownBy w none → Calls Tryd.prog 11 #[ev] w fun e w' => e = .returned (.int .i64 (N : Int)) ∧ w.grownBy w' none)
    (hw : W.grownBy { w with drawn := w.drawn + 1 } none)
    (hQ : ∀ us w', W.grownBy w' none → Q .normal ((fill a [143, 144, 145, 146, 147, 148, 149, 150, 151, 152, 153, 154] us).put (some 4) (.bool true)) w') : kcRegion32.wp Tryd.prog Q a w := by
  have hcf : ∀ args w, (callFunc 21 args).run Tryd.prog w = .ok (.enter 21 args) w := fun _ _ => by simp [go_sem]
  have hcn : ∀ args w, (callFunc 11 args).run Tryd.prog w = .ok (.enter 11 args) w := fun _ _ => by simp [go_sem]
  conv => arg 2; whnf
  refine wp_region_flow 12 [143, 144, 145, 146, 147, 148, 149, 150, 151, 152, 153, 154] (fun w' => W.grownBy w' none) (fun w w' => w.grownBy w' none) (r32F b k b6 b3 (.string I) (.string d) (.slice va n vc) ev (.int .i64 (N : Int))) (by kernel_rfl) (by kernel_rfl) (fun _ _ h k => grown_trans k h) (fun _ _ _ _ _ k => k) hw ?_ ?_
  · refine ⟨?_, ?_, ?_, ?_, ?_, ?_, ?_, ?_, ?_, ?_, ?_, ?_, trivial⟩
    · exact flow_step (fun us w hC hd => wants_free rfl) (fun us w hC hd => ⟨_, w, move_val rfl ((fill_old (by rfl)).trans h5), grown_refl _ _, rfl⟩)
    · exact flow_step (fun us w hC hd => wants_free rfl) (fun us w hC hd => ⟨_, w, move_val rfl ((fill_old (by rfl)).trans h11), grown_refl _ _, rfl⟩)
    · exact flow_step (fun us w hC hd => wants_free rfl) (fun us w hC hd => ⟨_, w, kidx_val rfl ((fill_old (by rfl)).trans h6) ((fill_tmp (by rfl) (by rw [hsz]; decide)).trans (hd 1 (by decide))) (kIdxS b6 k hk w), grown_refl _ _, rfl⟩)
    · exact flow_step (fun us w hC hd => wants_free rfl) (fun us w hC hd => ⟨_, w, kload_val rfl ((fill_tmp (by rfl) (by rw [hsz]; decide)).trans (hd 2 (by decide))) (kLoadS (ci w hC)), grown_refl _ _, rfl⟩)
    · exact flow_step (fun us w hC hd => wants_free rfl) (fun us w hC hd => ⟨_, w, kfield_val rfl ((fill_old (by rfl)).trans h3) (kField b3 1 (.inl rfl) w), grown_refl _ _, rfl⟩)
    · exact flow_step (fun us w hC hd => wants_free rfl) (fun us w hC hd => ⟨_, w, kload_val rfl ((fill_tmp (by rfl) (by rw [hsz]; decide)).trans (hd 4 (by decide))) (kLoadS (c1 w hC)), grown_refl _ _, rfl⟩)
    · exact flow_step (fun us w hC hd => wants_free rfl) (fun us w hC hd => ⟨_, w, kfield_val rfl ((fill_old (by rfl)).trans h3) (kField b3 2 (.inr rfl) w), grown_refl _ _, rfl⟩)
    · exact flow_step (fun us w hC hd => wants_free rfl) (fun us w hC hd => ⟨_, w, kload_val rfl ((fill_tmp (by rfl) (by rw [hsz]; decide)).trans (hd 6 (by decide))) (kLoadB (c2 w hC)), grown_refl _ _, rfl⟩)
    · refine flow_call 21 (fun us => #[us 143, us 146, us 148, us 150, .slice none 0 0]) (fun us w hC hd => wants_free rfl) (fun us w => by rw [call_enter rfl hcf, List.map_toArray, List.map_cons, List.map_cons, List.map_cons, List.map_cons, List.map_cons, List.map_nil, fill_tmp (by rfl) (by rw [hsz]; decide), fill_tmp (by rfl) (by rw [hsz]; decide), fill_tmp (by rfl) (by rw [hsz]; decide), fill_tmp (by rfl) (by rw [hsz]; decide)]; rfl) (fun us w hC' hd => ?_)
      rw [show us 143 = .pointer (some ⟨b, 0, none⟩) from hd 0 (by decide), show us 146 = .string I from hd 3 (by decide), show us 148 = .string d from hd 5 (by decide), show us 150 = .slice va n vc from hd 7 (by decide)]
      refine (hV w hC').mono ?_
      rintro e w' ⟨rfl, hg⟩
      exact ⟨_, rfl, hg, rfl⟩
    · refine flow_call 11 (fun us => #[us 151]) (fun us w hC hd => wants_free rfl) (fun us w => by rw [call_enter rfl hcn, List.map_toArray, List.map_cons, List.map_nil, fill_tmp (by rfl) (by rw [hsz]; decide)]) (fun us w hC' hd => ?_)
      rw [show us 151 = ev from hd 8 (by decide)]
      refine (hN w hC').mono ?_
      rintro e w' ⟨rfl, hg⟩
      exact ⟨_, rfl, hg, rfl⟩
    · exact flow_step (fun us w hC hd => wants_free rfl) (fun us w hC hd => ⟨_, w, move_val rfl ((fill_old (by rfl)).trans h19), grown_refl _ _, rfl⟩)
    · exact flow_step (fun us w hC hd => wants_free rfl) (fun us w hC hd => ⟨_, w, keqlint_val rfl ((fill_tmp (by rfl) (by rw [hsz]; decide)).trans (hd 9 (by decide))) ((fill_tmp (by rfl) (by rw [hsz]; decide)).trans (hd 10 (by decide))), grown_refl _ _, rfl⟩)
  · intro us w' hC' hF
    have e11 : us 154 = .bool true := hF 11 (by decide)
    refine wpList_plain rfl fun K hK => ?_
    have : (fill a [143, 144, 145, 146, 147, 148, 149, 150, 151, 152, 153, 154] us).eval (.tmp 154) = .bool true := (fill_tmp (by rfl) (by rw [hsz]; decide)).trans e11
    unfold Oper.wp
    rw [assign_val rfl this]
    exact hK _ _ (hQ us w' hC')
end Go.Proofs.YtgdnndapmcjoeaaDoor
