import Derived.Test.YtgdnndapmcjoeaaDoorKe34
import Derived.Test.YtgdnndapmcjoeaaDoorKe43
namespace Go.Proofs.YtgdnndapmcjoeaaDoor
open Go.RowKit Go.Maps
set_option linter.unusedVariables false
theorem kFieldP (p i : Nat) (w : World) (hi : i = 0 ∨ i = 1 := by decide) : (Instr.fieldAt 47 (.pointer (some ⟨p, 0, none⟩)) i).run Tryd.prog w = .ok (.pointer (some ⟨p, i, none⟩)) w := by
  rcases hi with rfl | rfl <;> simp [go_sem]
theorem kFieldA (c i : Nat) (w : World) (hi : i = 3 ∨ i = 5 := by decide) : (Instr.fieldAt 49 (.pointer (some ⟨c, 0, none⟩)) i).run Tryd.prog w = .ok (.pointer (some ⟨c, i, none⟩)) w := by
  rcases hi with rfl | rfl <;> simp [go_sem]
theorem kLoadG {g o : Nat} {w : World} {x : Addr} (h : w.cell? ⟨g, o, none⟩ = some (.pointer (some x))) : (Instr.loadAt 37 (.pointer (some ⟨g, o, none⟩))).run Tryd.prog w = .ok (.pointer (some x)) w := by simp [go_sem, h]
theorem kLoadM {g o : Nat} {w : World} {x : Addr} (h : w.cell? ⟨g, o, none⟩ = some (.pointer (some x))) : (Instr.loadAt 39 (.pointer (some ⟨g, o, none⟩))).run Tryd.prog w = .ok (.pointer (some x)) w := by simp [go_sem, h]
theorem verE_le (s : Rg) (id dom : ByteArray) (m sg : List Nat) : verE s id dom m sg ≤ 28 := by
  unfold verE
  split
  · exact recE_le _ _ _ _
  · split <;> decide
theorem PS.told_get {W0 w : World} {p c b m : Nat} {F G J : Nat → Prop} {iv tv : Value} {us : List Value} {ac : Array Value} {sp sd : Rg} {ids : List ByteArray} {told : List (List Nat)} (h : PS W0 p c b m F G J iv tv us ac sp sd ids told w) {j : Nat} (hj : j < told.length) :
    ∃ sa sc, us[j]? = some (.slice sa 32 sc) ∧ Bytes w (.slice sa 32 sc) (told.getD j []) ∧ (told.getD j []).length = 32 := by
  have hl := h.rows.now.2.2.1
  have hju : j < us.length := by omega
  have hz : (told.zip us)[j]? = some (told[j], us[j]) := by
    rw [List.getElem?_zip_eq_some, List.getElem?_eq_getElem hj, List.getElem?_eq_getElem hju]; exact ⟨rfl, rfl⟩
  have hB := h.rows.now.2.2.2 _ (List.mem_of_getElem? hz)
  have hB : Bytes w us[j] told[j] := hB
  have h32 := h.tl _ (List.getElem_mem hj)
  have e0 : told.getD j [] = told[j] := by rw [List.getD_eq_getElem?_getD, List.getElem?_eq_getElem hj]; rfl
  obtain ⟨h1, a, sb, so, cc, e, r⟩ := hB
  rw [h32] at e
  exact ⟨a, cc, by rw [List.getElem?_eq_getElem hju, e], by rw [e0, ← e]; exact ⟨h1, a, sb, so, cc, by rw [h32]; exact e, r⟩, by rw [e0]; exact h32⟩
noncomputable def kdRegion23 : Code := kRegion Tryd.f15.body 23
set_option maxRecDepth 100000 in
set_option maxHeartbeats 2000000 in
theorem kd_region23 (a : Act) (p c b m R : Nat) (I dom : ByteArray) (EV : Value) (ma sa : Option Addr) (ml mc sl sc : Nat) (W w : World) (Q : Exit → Act → World → Prop) (hsz : a.tmps.size = 230)
    (h0 : a.eval (.tmp 0) = .pointer (some ⟨p, 0, none⟩)) (h3 : a.eval (.tmp 3) = .pointer (some ⟨c, 0, none⟩)) (h5 : a.eval (.tmp 5) = .string I) (h13 : a.eval (.tmp 13) = .slice sa sl sc)
    (cp0 : ∀ w, W.grownBy w none → w.cell? ⟨p, 0, none⟩ = some (.pointer (some ⟨b, 0, none⟩))) (cp1 : ∀ w, W.grownBy w none → w.cell? ⟨p, 1, none⟩ = some (.pointer (some ⟨m, 0, none⟩))) (c3 : ∀ w, W.grownBy w none → w.cell? ⟨c, 3, none⟩ = some (.string dom)) (c5 : ∀ w, W.grownBy w none → w.cell? ⟨c, 5, none⟩ = some (.slice ma ml mc))
    (hV : ∀ w, W.grownBy w none → Calls Tryd.prog 21 #[.pointer (some ⟨b, 0, none⟩), .string I, .string dom, .slice ma ml mc, .slice sa sl sc] w fun e w' => e = .returned EV ∧ w.grownBy w' none)
    (hN : ∀ w, W.grownBy w none → Calls Tryd.prog 11 #[EV] w fun e w' => e = .returned (.int .i64 (R : Int)) ∧ w.grownBy w' none)
    (hR : ∀ w, W.grownBy w none → Calls Tryd.prog 28 #[.pointer (some ⟨m, 0, none⟩), .string I, .string dom, .slice ma ml mc, .slice sa sl sc] w fun e w' => e = .returned (.int .i64 (R : Int)) ∧ w.grownBy w' none)
    (hw : W.grownBy { w with drawn := w.drawn + 1 } none)
    (hQ : ∀ us w', W.grownBy w' none → Q .normal ((fill a [183, 184, 185, 186, 187, 188, 189, 190, 191, 192, 193, 194, 195, 196, 197, 198, 199, 200, 201, 202, 203, 204, 205, 206] us).put (some 4) (.bool true)) w') : kdRegion23.wp Tryd.prog Q a w := by
  have hcf : ∀ args w, (callFunc 21 args).run Tryd.prog w = .ok (.enter 21 args) w := fun _ _ => by simp [go_sem]
  have hcn : ∀ args w, (callFunc 11 args).run Tryd.prog w = .ok (.enter 11 args) w := fun _ _ => by simp [go_sem]
  have hcr : ∀ args w, (callFunc 28 args).run Tryd.prog w = .ok (.enter 28 args) w := fun _ _ => by simp [go_sem]
  conv => arg 2; whnf
  refine wp_region_flow 24 [183, 184, 185, 186, 187, 188, 189, 190, 191, 192, 193, 194, 195, 196, 197, 198, 199, 200, 201, 202, 203, 204, 205, 206] (fun w' => W.grownBy w' none) (fun w w' => w.grownBy w' none) (r6F [.pointer (some ⟨p, 0, none⟩), .pointer (some ⟨p, 0, none⟩), .pointer (some ⟨p, 0, none⟩), .pointer (some ⟨b, 0, none⟩), .string I, .pointer (some ⟨c, 3, none⟩), .string dom, .pointer (some ⟨c, 5, none⟩), .slice ma ml mc, .slice sa sl sc, EV, .int .i64 (R : Int), .pointer (some ⟨p, 0, none⟩), .pointer (some ⟨p, 0, none⟩), .pointer (some ⟨p, 1, none⟩), .pointer (some ⟨m, 0, none⟩), .string I, .pointer (some ⟨c, 3, none⟩), .string dom, .pointer (some ⟨c, 5, none⟩), .slice ma ml mc, .slice sa sl sc, .int .i64 (R : Int), .bool true]) (by kernel_rfl) (by kernel_rfl) (fun _ _ h k => grown_trans k h) (fun _ _ _ _ _ k => k) hw ?_ ?_
  · refine ⟨?_, ?_, ?_, ?_, ?_, ?_, ?_, ?_, ?_, ?_, ?_, ?_, ?_, ?_, ?_, ?_, ?_, ?_, ?_, ?_, ?_, ?_, ?_, ?_, trivial⟩
    · exact flow_step (fun us w hC hd => wants_free rfl) (fun us w hC hd => ⟨_, w, move_val rfl ((fill_old (by rfl)).trans h0), grown_refl _ _, rfl⟩)
    · exact flow_step (fun us w hC hd => wants_free rfl) (fun us w hC hd => ⟨_, w, kNilCk w _ rfl ((fill_tmp (by rfl) (by rw [hsz]; decide)).trans (hd 0 (by decide))), grown_refl _ _, rfl⟩)
    · exact flow_step (fun us w hC hd => wants_free rfl) (fun us w hC hd => ⟨_, w, kfield_val rfl ((fill_tmp (by rfl) (by rw [hsz]; decide)).trans (hd 1 (by decide))) (kFieldP p 0 w), grown_refl _ _, rfl⟩)
    · exact flow_step (fun us w hC hd => wants_free rfl) (fun us w hC hd => ⟨_, w, kload_val rfl ((fill_tmp (by rfl) (by rw [hsz]; decide)).trans (hd 2 (by decide))) (kLoadG (cp0 w hC)), grown_refl _ _, rfl⟩)
    · exact flow_step (fun us w hC hd => wants_free rfl) (fun us w hC hd => ⟨_, w, move_val rfl ((fill_old (by rfl)).trans h5), grown_refl _ _, rfl⟩)
    · exact flow_step (fun us w hC hd => wants_free rfl) (fun us w hC hd => ⟨_, w, kfield_val rfl ((fill_old (by rfl)).trans h3) (kFieldA c 3 w), grown_refl _ _, rfl⟩)
    · exact flow_step (fun us w hC hd => wants_free rfl) (fun us w hC hd => ⟨_, w, kload_val rfl ((fill_tmp (by rfl) (by rw [hsz]; decide)).trans (hd 5 (by decide))) (kLoadS (c3 w hC)), grown_refl _ _, rfl⟩)
    · exact flow_step (fun us w hC hd => wants_free rfl) (fun us w hC hd => ⟨_, w, kfield_val rfl ((fill_old (by rfl)).trans h3) (kFieldA c 5 w), grown_refl _ _, rfl⟩)
    · exact flow_step (fun us w hC hd => wants_free rfl) (fun us w hC hd => ⟨_, w, kload_val rfl ((fill_tmp (by rfl) (by rw [hsz]; decide)).trans (hd 7 (by decide))) (kLoadB (c5 w hC)), grown_refl _ _, rfl⟩)
    · exact flow_step (fun us w hC hd => wants_free rfl) (fun us w hC hd => ⟨_, w, move_val rfl ((fill_old (by rfl)).trans h13), grown_refl _ _, rfl⟩)
    · refine flow_call 21 (fun us => #[us 186, us 187, us 189, us 191, us 192]) (fun us w hC hd => wants_free rfl) (fun us w => by rw [call_enter rfl hcf, List.map_toArray, List.map_cons, List.map_cons, List.map_cons, List.map_cons, List.map_cons, List.map_nil, fill_tmp (by rfl) (by rw [hsz]; decide), fill_tmp (by rfl) (by rw [hsz]; decide), fill_tmp (by rfl) (by rw [hsz]; decide), fill_tmp (by rfl) (by rw [hsz]; decide), fill_tmp (by rfl) (by rw [hsz]; decide)]) (fun us w hC' hd => ?_)
      rw [show us 186 = .pointer (some ⟨b, 0, none⟩) from hd 3 (by decide), show us 187 = .string I from hd 4 (by decide), show us 189 = .string dom from hd 6 (by decide), show us 191 = .slice ma ml mc from hd 8 (by decide), show us 192 = .slice sa sl sc from hd 9 (by decide)]
      refine (hV w hC').mono ?_
      rintro e w' ⟨rfl, hg⟩
      exact ⟨_, rfl, hg, rfl⟩
    · refine flow_call 11 (fun us => #[us 193]) (fun us w hC hd => wants_free rfl) (fun us w => by rw [call_enter rfl hcn, List.map_toArray, List.map_cons, List.map_nil, fill_tmp (by rfl) (by rw [hsz]; decide)]) (fun us w hC' hd => ?_)
      rw [show us 193 = EV from hd 10 (by decide)]
      refine (hN w hC').mono ?_
      rintro e w' ⟨rfl, hg⟩
      exact ⟨_, rfl, hg, rfl⟩
    · exact flow_step (fun us w hC hd => wants_free rfl) (fun us w hC hd => ⟨_, w, move_val rfl ((fill_old (by rfl)).trans h0), grown_refl _ _, rfl⟩)
    · exact flow_step (fun us w hC hd => wants_free rfl) (fun us w hC hd => ⟨_, w, kNilCk w _ rfl ((fill_tmp (by rfl) (by rw [hsz]; decide)).trans (hd 12 (by decide))), grown_refl _ _, rfl⟩)
    · exact flow_step (fun us w hC hd => wants_free rfl) (fun us w hC hd => ⟨_, w, kfield_val rfl ((fill_tmp (by rfl) (by rw [hsz]; decide)).trans (hd 13 (by decide))) (kFieldP p 1 w), grown_refl _ _, rfl⟩)
    · exact flow_step (fun us w hC hd => wants_free rfl) (fun us w hC hd => ⟨_, w, kload_val rfl ((fill_tmp (by rfl) (by rw [hsz]; decide)).trans (hd 14 (by decide))) (kLoadM (cp1 w hC)), grown_refl _ _, rfl⟩)
    · exact flow_step (fun us w hC hd => wants_free rfl) (fun us w hC hd => ⟨_, w, move_val rfl ((fill_old (by rfl)).trans h5), grown_refl _ _, rfl⟩)
    · exact flow_step (fun us w hC hd => wants_free rfl) (fun us w hC hd => ⟨_, w, kfield_val rfl ((fill_old (by rfl)).trans h3) (kFieldA c 3 w), grown_refl _ _, rfl⟩)
    · exact flow_step (fun us w hC hd => wants_free rfl) (fun us w hC hd => ⟨_, w, kload_val rfl ((fill_tmp (by rfl) (by rw [hsz]; decide)).trans (hd 17 (by decide))) (kLoadS (c3 w hC)), grown_refl _ _, rfl⟩)
    · exact flow_step (fun us w hC hd => wants_free rfl) (fun us w hC hd => ⟨_, w, kfield_val rfl ((fill_old (by rfl)).trans h3) (kFieldA c 5 w), grown_refl _ _, rfl⟩)
    · exact flow_step (fun us w hC hd => wants_free rfl) (fun us w hC hd => ⟨_, w, kload_val rfl ((fill_tmp (by rfl) (by rw [hsz]; decide)).trans (hd 19 (by decide))) (kLoadB (c5 w hC)), grown_refl _ _, rfl⟩)
    · exact flow_step (fun us w hC hd => wants_free rfl) (fun us w hC hd => ⟨_, w, move_val rfl ((fill_old (by rfl)).trans h13), grown_refl _ _, rfl⟩)
    · refine flow_call 28 (fun us => #[us 198, us 199, us 201, us 203, us 204]) (fun us w hC hd => wants_free rfl) (fun us w => by rw [call_enter rfl hcr, List.map_toArray, List.map_cons, List.map_cons, List.map_cons, List.map_cons, List.map_cons, List.map_nil, fill_tmp (by rfl) (by rw [hsz]; decide), fill_tmp (by rfl) (by rw [hsz]; decide), fill_tmp (by rfl) (by rw [hsz]; decide), fill_tmp (by rfl) (by rw [hsz]; decide), fill_tmp (by rfl) (by rw [hsz]; decide)]) (fun us w hC' hd => ?_)
      rw [show us 198 = .pointer (some ⟨m, 0, none⟩) from hd 15 (by decide), show us 199 = .string I from hd 16 (by decide), show us 201 = .string dom from hd 18 (by decide), show us 203 = .slice ma ml mc from hd 20 (by decide), show us 204 = .slice sa sl sc from hd 21 (by decide)]
      refine (hR w hC').mono ?_
      rintro e w' ⟨rfl, hg⟩
      exact ⟨_, rfl, hg, rfl⟩
    · exact flow_step (fun us w hC hd => wants_free rfl) (fun us w hC hd => ⟨_, w, keqlint_val rfl ((fill_tmp (by rfl) (by rw [hsz]; decide)).trans (hd 11 (by decide))) ((fill_tmp (by rfl) (by rw [hsz]; decide)).trans (hd 22 (by decide))), grown_refl _ _, rfl⟩)
  · intro us w' hC' hF
    have e23 : us 206 = .bool true := hF 23 (by decide)
    refine wpList_plain rfl fun K hK => ?_
    have : (fill a [183, 184, 185, 186, 187, 188, 189, 190, 191, 192, 193, 194, 195, 196, 197, 198, 199, 200, 201, 202, 203, 204, 205, 206] us).eval (.tmp 206) = .bool true := (fill_tmp (by rfl) (by rw [hsz]; decide)).trans e23
    unfold Oper.wp
    rw [assign_val rfl this]
    exact hK _ _ (hQ us w' hC')
end Go.Proofs.YtgdnndapmcjoeaaDoor
