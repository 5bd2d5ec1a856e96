/- The walk of the law MacApart. -/
import Derived.Test.YtckdkcfhkakcfaaDoorAr1
import Derived.Test.YtckdkcfhkakcfaaDoorAr2
namespace Go.Proofs.YtckdkcfhkakcfaaDoor
open Go.RowKit

theorem Bytes.take {w : World} {a : Option Addr} {l c : Nat} {L : List Nat} (h : Bytes w (.slice a l c) L) (k : Nat) (hk : k ≤ l) : Bytes w (.slice a k c) (L.take k) := by
  obtain ⟨h1, a', sb, so, c', e, hc, ha, hcell⟩ := h
  cases e
  have hkl : (L.take k).length = k := by rw [List.length_take]; omega
  exact ⟨fun x hx => h1 x (List.mem_of_mem_take hx), a, sb, so, c, by rw [hkl], by rw [hkl]; omega, fun h => ha (by omega), fun j hj => by
    rw [hkl] at hj
    rw [hcell j (by omega)]
    simp [List.getD_eq_getElem?_getD, hj]⟩

/-- The world in the law: the two boxes. -/
structure ApW (w W : World) (s1 s2 : ByteArray) (x1 x2 : Value) : Prop where
  grown : w.grownBy W none
  size : w.heap.size + 2 ≤ W.heap.size
  a0 : W.cell? ⟨w.heap.size, 0, none⟩ = some (.string s1)
  a1 : W.cell? ⟨w.heap.size, 1, none⟩ = some x1
  b0 : W.cell? ⟨w.heap.size + 1, 0, none⟩ = some (.string s2)
  b1 : W.cell? ⟨w.heap.size + 1, 1, none⟩ = some x2
theorem ApW.grow {w W W' : World} {s1 s2 : ByteArray} {x1 x2 : Value} (h : ApW w W s1 s2 x1 x2) (hg : W.grownBy W' none) : ApW w W' s1 s2 x1 x2 := by
  have hs := h.size
  have e : ∀ (b i : Nat), b < W.heap.size → W'.cell? ⟨b, i, none⟩ = W.cell? ⟨b, i, none⟩ := fun b i hb => World.cell?_of_block (hg.block b hb (by simp))
  exact ⟨grown_trans h.grown hg, Nat.le_trans h.size hg.size, by rw [e _ _ (by omega)]; exact h.a0, by rw [e _ _ (by omega)]; exact h.a1, by rw [e _ _ (by omega)]; exact h.b0, by rw [e _ _ (by omega)]; exact h.b1⟩
theorem ApW.start (w : World) (s1 s2 : ByteArray) (x1 x2 : Value) (t : TypeId) : ApW w ((w.alloc (.cells #[.string s1, x1] t)).alloc (.cells #[.string s2, x2] t)) s1 s2 x1 x2 :=
  ⟨grown_alloc (World.grownBy_alloc _ _ _) _, by rw [alloc2_size]; exact Nat.le_refl _, cell_blk (alloc2_old _ _ _) 0 rfl, cell_blk (alloc2_old _ _ _) 1 rfl, cell_blk (alloc2_new _ _ _) 0 rfl, cell_blk (alloc2_new _ _ _) 1 rfl⟩

theorem fErr_cases (W : List Nat) (A : List (List Nat)) : fErr W A = 0 ∨ fErr W A = 8 ∨ fErr W A = 3 := by
  unfold fErr
  repeat' split
  all_goals simp

/-- Frame's answer where it is right, in the walk's own form. -/
theorem frame_right {w : World} {s : ByteArray} {parts : List (List Nat)} {eT eL : Value} (h0 : fErr (strL s) parts = 0) (hp : ∀ p ∈ parts, ∀ x ∈ p, x < 256) {e : Ending} {w' : World} (h : FramePost w s parts eT eL e w') :
    ∃ g c, e = .returned (.tuple #[.slice (some ⟨g, 0, none⟩) (frameOf (strL s) parts).length c, .nilIface]) ∧ w.grownBy w' none ∧ Bytes w' (.slice (some ⟨g, 0, none⟩) (frameOf (strL s) parts).length c) (frameOf (strL s) parts) ∧ (frameOf (strL s) parts).length ≤ c := by
  obtain ⟨hg, v, u, rfl, h⟩ := h
  rcases h with ⟨_, rfl, hW⟩ | ⟨h, _⟩ | ⟨h, _⟩
  · have hB := Bytes.own hW.own (frame_lt _ _ h0 (strL_lt s) hp)
    obtain ⟨a, g, c, rfl, h1, h2, h3, h4⟩ := ownsRow_form hW.own
    have hl : 0 < (frameOf (strL s) parts).length := by simp [frameOf, fhead]
    obtain ⟨rfl, _⟩ := h3 hl
    exact ⟨g, c, rfl, hg, hB, h1⟩
  · rw [h0] at h; cases h
  · rw [h0] at h; cases h
/-- .. and where it is not. -/
theorem frame_wrong {w : World} {s : ByteArray} {parts : List (List Nat)} {t : TypeId} {aT aL : Addr} (h0 : fErr (strL s) parts ≠ 0) {e : Ending} {w' : World} (h : FramePost w s parts (.iface t (.pointer (some aT))) (.iface t (.pointer (some aL))) e w') :
    ∃ q, e = .returned (.tuple #[.slice none 0 0, .iface t (.pointer (some q))]) ∧ w.grownBy w' none := by
  obtain ⟨hg, v, u, rfl, h⟩ := h
  rcases h with ⟨h, _⟩ | ⟨_, rfl, rfl⟩ | ⟨_, rfl, rfl⟩
  · exact absurd h h0
  · exact ⟨_, rfl, hg⟩
  · exact ⟨_, rfl, hg⟩

set_option maxRecDepth 100000 in
set_option maxHeartbeats 2000000 in
theorem macApart_any (s1 s2 : ByteArray) (A B : List (List Nat)) (a : Option Addr) (sa oa n ca : Nat) (hn : A.length = n) (b : Option Addr) (sb ob m cb : Nat) (hm : B.length = m) (w : World)
    (ha : 0 < n → a = some ⟨sa, oa, none⟩ ∧ sa < w.heap.size) (hA : PartsW w sa oa A) (hb : 0 < m → b = some ⟨sb, ob, none⟩ ∧ sb < w.heap.size) (hB : PartsW w sb ob B)
    (hnn : n ≤ 9223372036854775807) (hmm : m ≤ 9223372036854775807) (hs1 : s1.size ≤ 9223372036854775807) (hs2 : s2.size ≤ 9223372036854775807) (aT aL : Addr) (hE : Errs w (.iface 118 (.pointer (some aT))) (.iface 118 (.pointer (some aL)))) :
    Calls Tryd.prog 8 #[.agg #[.string s1, .slice a n ca], .agg #[.string s2, .slice b m cb]] w fun e w' => e = .returned (.bool true) ∧ w.grownBy w' none := by
  have HP := Lib.hid (ApW.start w s1 s2 (.slice a n ca) (.slice b m cb) 59)
  obtain ⟨W, hW⟩ : ∃ W, W = ((w.alloc (.cells #[.string s1, .slice a n ca] 59)).alloc (.cells #[.string s2, .slice b m cb] 59)) := ⟨_, rfl⟩
  rw [← hW] at HP
  have HW := Lib.hid hW
  have HAl := Lib.hid (alive2_any W _ _ (hE.grown HP.out.grown))
  have hA' : ∀ {W'}, w.grownBy W' none → PartsW W' sa oa A := fun hg => hA.grown (fun h => (ha (by omega)).2) hg
  have hB' : ∀ {W'}, w.grownBy W' none → PartsW W' sb ob B := fun hg => hB.grown (fun h => (hb (by omega)).2) hg
  have ha' : ∀ {W'}, w.grownBy W' none → 0 < n → a = some ⟨sa, oa, none⟩ ∧ sa < W'.heap.size := fun hg h => ⟨(ha h).1, Nat.lt_of_lt_of_le (ha h).2 hg.size⟩
  have hb' : ∀ {W'}, w.grownBy W' none → 0 < m → b = some ⟨sb, ob, none⟩ ∧ sb < W'.heap.size := fun hg h => ⟨(hb h).1, Nat.lt_of_lt_of_le (hb h).2 hg.size⟩
  have HL1 : Hid (∀ W', w.grownBy W' none → Calls Tryd.prog 28 #[.slice none 0 0, .slice a n ca] W' fun e w' => e = .returned (.bool (longB 0 A)) ∧ w' = W') := Lib.hid (fun W' hg => long_any none 0 0 A a sa oa n ca hn W' (ha' hg) (hA' hg) hnn)
  have HL2 : Hid (∀ W', w.grownBy W' none → Calls Tryd.prog 28 #[.slice none 0 0, .slice b m cb] W' fun e w' => e = .returned (.bool (longB 0 B)) ∧ w' = W') := Lib.hid (fun W' hg => long_any none 0 0 B b sb ob m cb hm W' (hb' hg) (hB' hg) hmm)
  have hAlt : ∀ p ∈ A, ∀ x ∈ p, x < 256 := fun p hp => by
    obtain ⟨k, hk, rfl⟩ := mem_getD hp
    obtain ⟨_, _, hBy, _⟩ := hA k hk
    exact hBy.lt
  have hBlt : ∀ p ∈ B, ∀ x ∈ p, x < 256 := fun p hp => by
    obtain ⟨k, hk, rfl⟩ := mem_getD hp
    obtain ⟨_, _, hBy, _⟩ := hB k hk
    exact hBy.lt
  have hnn' : longB 0 A = false → n ≤ 1099511620000 := fun h => by
    have := of_decide_eq_false h
    rcases Nat.lt_or_ge 20 n with h1 | h1
    · exact absurd (.inr (.inl (by rw [hn]; exact h1))) this
    · omega
  have hmm' : longB 0 B = false → m ≤ 1099511620000 := fun h => by
    have := of_decide_eq_false h
    rcases Nat.lt_or_ge 20 m with h1 | h1
    · exact absurd (.inr (.inl (by rw [hm]; exact h1))) this
    · omega
  generalize longB 0 A = t1 at HL1 hnn'
  generalize longB 0 B = t2 at HL2 hmm'
  cases t1 with
  | true =>
    clear hE hA' hB' ha' hb' hAlt hBlt hn hm ha hb hA hB hW hnn hmm
    clear hs1 hs2 hnn' hmm'
    go_enter Tryd.func8, Tryd.ntmps8
    go_wp2_with (first | (go_at_call 27; rw [← HW.out]; refine HAl.out.mono ?_; rintro e w2 ⟨rfl, hg2⟩; have P2 := Lib.hid (HP.out.grow hg2); have a0 := P2.out.a0; have a1 := P2.out.a1; have b0 := P2.out.b0; have b1 := P2.out.b1; clear hg2) | (go_at_call 28; (first | (with_reducible refine (HL1.out w2 P2.out.grown).mono ?_) | (with_reducible refine (HL2.out w2 P2.out.grown).mono ?_)); rintro e w3 ⟨rfl, hw3⟩; have hw3' := hw3.symm; subst hw3'; clear hw3))
    go_ret
    exact ⟨rfl, P2.out.grown⟩
  | false =>
  cases t2 with
  | true =>
    clear hE hA' hB' ha' hb' hAlt hBlt hn hm ha hb hA hB hW hnn hmm
    clear hs1 hs2 hnn' hmm'
    go_enter Tryd.func8, Tryd.ntmps8
    go_wp2_with (first | (go_at_call 27; rw [← HW.out]; refine HAl.out.mono ?_; rintro e w2 ⟨rfl, hg2⟩; have P2 := Lib.hid (HP.out.grow hg2); have a0 := P2.out.a0; have a1 := P2.out.a1; have b0 := P2.out.b0; have b1 := P2.out.b1; clear hg2) | (go_at_call 28; (first | (with_reducible refine (HL1.out w2 P2.out.grown).mono ?_) | (with_reducible refine (HL2.out w2 P2.out.grown).mono ?_)); rintro e w3 ⟨rfl, hw3⟩; have hw3' := hw3.symm; subst hw3'; clear hw3))
    go_ret
    exact ⟨rfl, P2.out.grown⟩
  | false =>
  have hnn' := hnn' rfl
  have hmm' := hmm' rfl
  by_cases z1 : 100 < s1.size
  · have d1 : decide ((100 : Int) < (s1.size : Int)) = true := decide_eq_true (by omega)
    clear hE hA' hB' ha' hb' hAlt hBlt hn hm ha hb hA hB hW hnn hmm
    clear hs1 hs2 hnn' hmm'
    go_enter Tryd.func8, Tryd.ntmps8
    go_wp2_with (first | (go_at_call 27; rw [← HW.out]; refine HAl.out.mono ?_; rintro e w2 ⟨rfl, hg2⟩; have P2 := Lib.hid (HP.out.grow hg2); have a0 := P2.out.a0; have a1 := P2.out.a1; have b0 := P2.out.b0; have b1 := P2.out.b1; clear hg2) | (go_at_call 28; (first | (with_reducible refine (HL1.out w2 P2.out.grown).mono ?_) | (with_reducible refine (HL2.out w2 P2.out.grown).mono ?_)); rintro e w3 ⟨rfl, hw3⟩; have hw3' := hw3.symm; subst hw3'; clear hw3))
    go_ret
    exact ⟨rfl, P2.out.grown⟩
  have d1 : decide ((100 : Int) < (s1.size : Int)) = false := decide_eq_false (by omega)
  by_cases z2 : 100 < s2.size
  · have d2 : decide ((100 : Int) < (s2.size : Int)) = true := decide_eq_true (by omega)
    clear hE hA' hB' ha' hb' hAlt hBlt hn hm ha hb hA hB hW hnn hmm
    clear hs1 hs2 hnn' hmm'
    go_enter Tryd.func8, Tryd.ntmps8
    go_wp2_with (first | (go_at_call 27; rw [← HW.out]; refine HAl.out.mono ?_; rintro e w2 ⟨rfl, hg2⟩; have P2 := Lib.hid (HP.out.grow hg2); have a0 := P2.out.a0; have a1 := P2.out.a1; have b0 := P2.out.b0; have b1 := P2.out.b1; clear hg2) | (go_at_call 28; (first | (with_reducible refine (HL1.out w2 P2.out.grown).mono ?_) | (with_reducible refine (HL2.out w2 P2.out.grown).mono ?_)); rintro e w3 ⟨rfl, hw3⟩; have hw3' := hw3.symm; subst hw3'; clear hw3))
    go_ret
    exact ⟨rfl, P2.out.grown⟩
  have d2 : decide ((100 : Int) < (s2.size : Int)) = false := decide_eq_false (by omega)
  have hs1' : s1.size ≤ 1099511620000 := by omega
  have hs2' : s2.size ≤ 1099511620000 := by omega
  clear z1 z2
  by_cases e1 : fErr (strL s1) A = 0
  case neg =>
    have HF1 : Hid (∀ W', w.grownBy W' none → Calls Tryd.prog 33 #[.string s1, .slice a n ca] W' fun e w' => ∃ q, e = .returned (.tuple #[.slice none 0 0, .iface 118 (.pointer (some q))]) ∧ W'.grownBy w' none) := Lib.hid (fun W' hg => (frame_any s1 A a sa oa n ca hn W' (ha' hg) (hA' hg) hs1' hnn' _ _ (hE.grown hg)).mono fun _ _ h => frame_wrong e1 h)
    have HF2 : Hid (∀ W', w.grownBy W' none → Calls Tryd.prog 33 #[.string s2, .slice b m cb] W' fun e w' => ∃ v u, e = .returned (.tuple #[v, u]) ∧ W'.grownBy w' none) := Lib.hid (fun W' hg => (frame_any s2 B b sb ob m cb hm W' (hb' hg) (hB' hg) hs2' hmm' _ _ (hE.grown hg)).mono fun _ _ h => by obtain ⟨h1, v, u, h2, _⟩ := h; exact ⟨v, u, h2, h1⟩)
    clear e1
    clear hE hA' hB' ha' hb' hAlt hBlt hn hm ha hb hA hB hW hnn hmm hs1 hs2 hs1' hs2' hnn' hmm'
    go_enter Tryd.func8, Tryd.ntmps8
    go_wp2_with (first
      | (go_at_call 27; rw [← HW.out]; refine HAl.out.mono ?_; rintro e w2 ⟨rfl, hg2⟩; have P2 := Lib.hid (HP.out.grow hg2); have a0 := P2.out.a0; have a1 := P2.out.a1; have b0 := P2.out.b0; have b1 := P2.out.b1; clear hg2)
      | (go_at_call 28; (first | (with_reducible refine (HL1.out w2 P2.out.grown).mono ?_) | (with_reducible refine (HL2.out w2 P2.out.grown).mono ?_)); rintro e w3 ⟨rfl, hw3⟩; have hw3' := hw3.symm; subst hw3'; clear hw3)
      | (go_at_call 33; with_reducible refine (HF1.out w2 P2.out.grown).mono ?_; rintro e w3 ⟨q3, rfl, hg3⟩; have P3 := Lib.hid (P2.out.grow hg3); have a0 := P3.out.a0; have a1 := P3.out.a1; have b0 := P3.out.b0; have b1 := P3.out.b1; clear hg3)
      | (go_at_call 33; with_reducible refine (HF2.out w3 P3.out.grown).mono ?_; rintro e w4 ⟨v4, u4, rfl, hg4⟩; have P4 := Lib.hid (P3.out.grow hg4); have a0 := P4.out.a0; have a1 := P4.out.a1; have b0 := P4.out.b0; have b1 := P4.out.b1; clear hg4))
    go_ret
    exact ⟨rfl, P4.out.grown⟩
  obtain ⟨f1, hf1⟩ : ∃ f, f = frameOf (strL s1) A := ⟨_, rfl⟩
  by_cases e2 : fErr (strL s2) B = 0
  case neg =>
    have HF1 : Hid (∀ W', w.grownBy W' none → Calls Tryd.prog 33 #[.string s1, .slice a n ca] W' fun e w' => ∃ g c, e = .returned (.tuple #[.slice (some ⟨g, 0, none⟩) f1.length c, .nilIface]) ∧ W'.grownBy w' none ∧ Bytes w' (.slice (some ⟨g, 0, none⟩) f1.length c) f1 ∧ f1.length ≤ c) := Lib.hid (fun W' hg => (frame_any s1 A a sa oa n ca hn W' (ha' hg) (hA' hg) hs1' hnn' _ _ (hE.grown hg)).mono fun _ _ h => by rw [hf1]; exact frame_right e1 hAlt h)
    have HF2 : Hid (∀ W', w.grownBy W' none → Calls Tryd.prog 33 #[.string s2, .slice b m cb] W' fun e w' => ∃ q, e = .returned (.tuple #[.slice none 0 0, .iface 118 (.pointer (some q))]) ∧ W'.grownBy w' none) := Lib.hid (fun W' hg => (frame_any s2 B b sb ob m cb hm W' (hb' hg) (hB' hg) hs2' hmm' _ _ (hE.grown hg)).mono fun _ _ h => frame_wrong e2 h)
    clear e1 e2
    clear hE hA' hB' ha' hb' hAlt hBlt hn hm ha hb hA hB hW hnn hmm hs1 hs2 hs1' hs2' hnn' hmm'
    go_enter Tryd.func8, Tryd.ntmps8
    go_wp2_with (first
      | (go_at_call 27; rw [← HW.out]; refine HAl.out.mono ?_; rintro e w2 ⟨rfl, hg2⟩; have P2 := Lib.hid (HP.out.grow hg2); have a0 := P2.out.a0; have a1 := P2.out.a1; have b0 := P2.out.b0; have b1 := P2.out.b1; clear hg2)
      | (go_at_call 28; (first | (with_reducible refine (HL1.out w2 P2.out.grown).mono ?_) | (with_reducible refine (HL2.out w2 P2.out.grown).mono ?_)); rintro e w3 ⟨rfl, hw3⟩; have hw3' := hw3.symm; subst hw3'; clear hw3)
      | (go_at_call 33; with_reducible refine (HF1.out w2 P2.out.grown).mono ?_; rintro e w3 ⟨g1, c1, rfl, hg3, hB3, hc1⟩; have B3 := Lib.hid hB3; clear hB3; have P3 := Lib.hid (P2.out.grow hg3); have a0 := P3.out.a0; have a1 := P3.out.a1; have b0 := P3.out.b0; have b1 := P3.out.b1; clear hg3)
      | (go_at_call 33; with_reducible refine (HF2.out w3 P3.out.grown).mono ?_; rintro e w4 ⟨q4, rfl, hg4⟩; have P4 := Lib.hid (P3.out.grow hg4); have a0 := P4.out.a0; have a1 := P4.out.a1; have b0 := P4.out.b0; have b1 := P4.out.b1; clear hg4))
    go_ret
    exact ⟨rfl, P4.out.grown⟩
  obtain ⟨f2, hf2⟩ : ∃ f, f = frameOf (strL s2) B := ⟨_, rfl⟩
  have HF1 : Hid (∀ W', w.grownBy W' none → Calls Tryd.prog 33 #[.string s1, .slice a n ca] W' fun e w' => ∃ g c, e = .returned (.tuple #[.slice (some ⟨g, 0, none⟩) f1.length c, .nilIface]) ∧ W'.grownBy w' none ∧ Bytes w' (.slice (some ⟨g, 0, none⟩) f1.length c) f1 ∧ f1.length ≤ c) := Lib.hid (fun W' hg => (frame_any s1 A a sa oa n ca hn W' (ha' hg) (hA' hg) hs1' hnn' _ _ (hE.grown hg)).mono fun _ _ h => by rw [hf1]; exact frame_right e1 hAlt h)
  have HF2 : Hid (∀ W', w.grownBy W' none → Calls Tryd.prog 33 #[.string s2, .slice b m cb] W' fun e w' => ∃ g c, e = .returned (.tuple #[.slice (some ⟨g, 0, none⟩) f2.length c, .nilIface]) ∧ W'.grownBy w' none ∧ Bytes w' (.slice (some ⟨g, 0, none⟩) f2.length c) f2 ∧ f2.length ≤ c) := Lib.hid (fun W' hg => (frame_any s2 B b sb ob m cb hm W' (hb' hg) (hB' hg) hs2' hmm' _ _ (hE.grown hg)).mono fun _ _ h => by rw [hf2]; exact frame_right e2 hBlt h)
  have HSL : Hid (∀ W', w.grownBy W' none → Calls Tryd.prog 37 #[.slice a n ca, .slice b m cb] W' fun e w' => e = .returned (.bool (decide (A = B))) ∧ W'.grownBy w' none) := Lib.hid (fun W' hg => (sameLists_any A B a sa oa n ca hn b sb ob m cb hm W' (ha' hg) (hA' hg) (hb' hg) (hB' hg) hnn hmm).mono fun _ _ h => by obtain ⟨h1, q, rfl⟩ := h; exact ⟨h1, grown_drewN (grown_refl _ _) q⟩)
  have q1 := parts_of_fErr e1
  have q2 := parts_of_fErr e2
  have hbi := begins_iff (V := strL s1) (W := strL s2) (A := A) (B := B) (fun p hp => Nat.lt_of_le_of_lt (q1.1 p hp) (by decide)) (fun p hp => Nat.lt_of_le_of_lt (q2.1 p hp) (by decide))
  rw [← hf1, ← hf2] at hbi
  have l1 : ∀ x ∈ f1, x < 256 := by rw [hf1]; exact frame_lt _ _ e1 (strL_lt s1) hAlt
  have l2 : ∀ x ∈ f2, x < 256 := by rw [hf2]; exact frame_lt _ _ e2 (strL_lt s2) hBlt
  have hp := str_beq s1 s2
  have hy := strOf_beq (a := f2.take f1.length) (b := f1) (fun x hx => l2 x (List.mem_of_mem_take hx)) l1
  obtain ⟨y1, hy1⟩ : ∃ y, y = strOf f1 := ⟨_, rfl⟩
  obtain ⟨y2, hy2⟩ : ∃ y, y = strOf (f2.take f1.length) := ⟨_, rfl⟩
  rw [← hy1, ← hy2] at hy
  have HY1 := Lib.hid hy1
  have HY2 := Lib.hid hy2
  clear hE hA' hB' ha' hb' hAlt hBlt hn hm ha hb hA hB hW hnn hmm hs1 hs2 hs1' hs2' hnn' hmm'
  clear hf1 hf2 q1 q2 l1 l2 hy1 hy2 e1 e2
  by_cases hle : f1.length ≤ f2.length
  case pos =>
    have dl : decide ((f1.length : Int) ≤ (f2.length : Int)) = true := decide_eq_true (by omega)
    by_cases k1 : strL s1 = strL s2
    · rw [decide_eq_true k1] at hp
      by_cases k2 : A = B
      · rw [decide_eq_true k2] at HSL
        rw [decide_eq_true (hbi.2 ⟨k1, k2⟩).2] at hy
        clear k1 k2 hbi
        go_enter Tryd.func8, Tryd.ntmps8
        go_wp2_with (first
          | (go_at_call 27; rw [← HW.out]; refine HAl.out.mono ?_; rintro e w2 ⟨rfl, hg2⟩; have P2 := Lib.hid (HP.out.grow hg2); have a0 := P2.out.a0; have a1 := P2.out.a1; have b0 := P2.out.b0; have b1 := P2.out.b1; clear hg2)
          | (go_at_call 28; (first | (with_reducible refine (HL1.out w2 P2.out.grown).mono ?_) | (with_reducible refine (HL2.out w2 P2.out.grown).mono ?_)); rintro e w3 ⟨rfl, hw3⟩; have hw3' := hw3.symm; subst hw3'; clear hw3)
          | (go_at_call 33; with_reducible refine (HF1.out w2 P2.out.grown).mono ?_; rintro e w3 ⟨g1, c1, rfl, hg3, hB3, hc1⟩; have B3 := Lib.hid hB3; clear hB3; have P3 := Lib.hid (P2.out.grow hg3); have a0 := P3.out.a0; have a1 := P3.out.a1; have b0 := P3.out.b0; have b1 := P3.out.b1; clear hg3)
          | (go_at_call 33; with_reducible refine (HF2.out w3 P3.out.grown).mono ?_; rintro e w4 ⟨g2, c2, rfl, hg4, hB4, hc2⟩; have B4 := Lib.hid hB4; clear hB4; have B3' := Lib.hid (B3.out.grown hg4); have P4 := Lib.hid (P3.out.grow hg4); have a0 := P4.out.a0; have a1 := P4.out.a1; have b0 := P4.out.b0; have b1 := P4.out.b1; clear hg4)
          | (go_at_call 37; with_reducible refine (HSL.out w4 P4.out.grown).mono ?_; rintro e w5 ⟨rfl, hg5⟩; have P5 := Lib.hid (P4.out.grow hg5); have G5 := Lib.hid hg5; clear hg5))
        have cv1 : ∀ q, (convert 25 9 (.slice (some ⟨g1, 0, none⟩) f1.length c1)).run Tryd.prog (w5.drewN q) = .ok (.string y1) (w5.drewN q) := fun q => by rw [HY1.out]; exact conv_bytes (B3'.out.grown (grown_drewN G5.out q)) _ 5 _ Tryd.underlying25 Tryd.underlying5 Tryd.underlying9
        have cv2 : ∀ q, (convert 25 9 (.slice (some ⟨g2, 0, none⟩) f1.length c2)).run Tryd.prog (w5.drewN q) = .ok (.string y2) (w5.drewN q) := fun q => by rw [HY2.out]; exact conv_bytes ((B4.out.grown (grown_drewN G5.out q)).take _ hle) _ 5 _ Tryd.underlying25 Tryd.underlying5 Tryd.underlying9
        go_quiet (fail)
        go_wp2
        go_ret
        exact ⟨rfl, grown_drewN P5.out.grown _⟩
      · rw [decide_eq_false k2] at HSL
        rw [decide_eq_false (fun h => k2 (hbi.1 ⟨hle, h⟩).2)] at hy
        clear k1 k2 hbi
        go_enter Tryd.func8, Tryd.ntmps8
        go_wp2_with (first
          | (go_at_call 27; rw [← HW.out]; refine HAl.out.mono ?_; rintro e w2 ⟨rfl, hg2⟩; have P2 := Lib.hid (HP.out.grow hg2); have a0 := P2.out.a0; have a1 := P2.out.a1; have b0 := P2.out.b0; have b1 := P2.out.b1; clear hg2)
          | (go_at_call 28; (first | (with_reducible refine (HL1.out w2 P2.out.grown).mono ?_) | (with_reducible refine (HL2.out w2 P2.out.grown).mono ?_)); rintro e w3 ⟨rfl, hw3⟩; have hw3' := hw3.symm; subst hw3'; clear hw3)
          | (go_at_call 33; with_reducible refine (HF1.out w2 P2.out.grown).mono ?_; rintro e w3 ⟨g1, c1, rfl, hg3, hB3, hc1⟩; have B3 := Lib.hid hB3; clear hB3; have P3 := Lib.hid (P2.out.grow hg3); have a0 := P3.out.a0; have a1 := P3.out.a1; have b0 := P3.out.b0; have b1 := P3.out.b1; clear hg3)
          | (go_at_call 33; with_reducible refine (HF2.out w3 P3.out.grown).mono ?_; rintro e w4 ⟨g2, c2, rfl, hg4, hB4, hc2⟩; have B4 := Lib.hid hB4; clear hB4; have B3' := Lib.hid (B3.out.grown hg4); have P4 := Lib.hid (P3.out.grow hg4); have a0 := P4.out.a0; have a1 := P4.out.a1; have b0 := P4.out.b0; have b1 := P4.out.b1; clear hg4)
          | (go_at_call 37; with_reducible refine (HSL.out w4 P4.out.grown).mono ?_; rintro e w5 ⟨rfl, hg5⟩; have P5 := Lib.hid (P4.out.grow hg5); have G5 := Lib.hid hg5; clear hg5))
        have cv1 : ∀ q, (convert 25 9 (.slice (some ⟨g1, 0, none⟩) f1.length c1)).run Tryd.prog (w5.drewN q) = .ok (.string y1) (w5.drewN q) := fun q => by rw [HY1.out]; exact conv_bytes (B3'.out.grown (grown_drewN G5.out q)) _ 5 _ Tryd.underlying25 Tryd.underlying5 Tryd.underlying9
        have cv2 : ∀ q, (convert 25 9 (.slice (some ⟨g2, 0, none⟩) f1.length c2)).run Tryd.prog (w5.drewN q) = .ok (.string y2) (w5.drewN q) := fun q => by rw [HY2.out]; exact conv_bytes ((B4.out.grown (grown_drewN G5.out q)).take _ hle) _ 5 _ Tryd.underlying25 Tryd.underlying5 Tryd.underlying9
        go_quiet (fail)
        go_wp2
        go_ret
        exact ⟨rfl, grown_drewN P5.out.grown _⟩
    · rw [decide_eq_false k1] at hp
      rw [decide_eq_false (fun h => k1 (hbi.1 ⟨hle, h⟩).1)] at hy
      clear k1 hbi
      go_enter Tryd.func8, Tryd.ntmps8
      go_wp2_with (first
        | (go_at_call 27; rw [← HW.out]; refine HAl.out.mono ?_; rintro e w2 ⟨rfl, hg2⟩; have P2 := Lib.hid (HP.out.grow hg2); have a0 := P2.out.a0; have a1 := P2.out.a1; have b0 := P2.out.b0; have b1 := P2.out.b1; clear hg2)
        | (go_at_call 28; (first | (with_reducible refine (HL1.out w2 P2.out.grown).mono ?_) | (with_reducible refine (HL2.out w2 P2.out.grown).mono ?_)); rintro e w3 ⟨rfl, hw3⟩; have hw3' := hw3.symm; subst hw3'; clear hw3)
        | (go_at_call 33; with_reducible refine (HF1.out w2 P2.out.grown).mono ?_; rintro e w3 ⟨g1, c1, rfl, hg3, hB3, hc1⟩; have B3 := Lib.hid hB3; clear hB3; have P3 := Lib.hid (P2.out.grow hg3); have a0 := P3.out.a0; have a1 := P3.out.a1; have b0 := P3.out.b0; have b1 := P3.out.b1; clear hg3)
        | (go_at_call 33; with_reducible refine (HF2.out w3 P3.out.grown).mono ?_; rintro e w4 ⟨g2, c2, rfl, hg4, hB4, hc2⟩; have B4 := Lib.hid hB4; clear hB4; have B3' := Lib.hid (B3.out.grown hg4); have P4 := Lib.hid (P3.out.grow hg4); have a0 := P4.out.a0; have a1 := P4.out.a1; have b0 := P4.out.b0; have b1 := P4.out.b1; clear hg4)
        | (go_at_call 37; with_reducible refine (HSL.out w4 P4.out.grown).mono ?_; rintro e w5 ⟨rfl, hg5⟩; have P5 := Lib.hid (P4.out.grow hg5); have G5 := Lib.hid hg5; clear hg5))
      have cv1 : ∀ q, (convert 25 9 (.slice (some ⟨g1, 0, none⟩) f1.length c1)).run Tryd.prog (w4.drewN q) = .ok (.string y1) (w4.drewN q) := fun q => by rw [HY1.out]; exact conv_bytes (B3'.out.grown (grown_drewN (grown_refl w4 none) q)) _ 5 _ Tryd.underlying25 Tryd.underlying5 Tryd.underlying9
      have cv2 : ∀ q, (convert 25 9 (.slice (some ⟨g2, 0, none⟩) f1.length c2)).run Tryd.prog (w4.drewN q) = .ok (.string y2) (w4.drewN q) := fun q => by rw [HY2.out]; exact conv_bytes ((B4.out.grown (grown_drewN (grown_refl w4 none) q)).take _ hle) _ 5 _ Tryd.underlying25 Tryd.underlying5 Tryd.underlying9
      go_quiet (fail)
      go_wp2
      go_ret
      exact ⟨rfl, grown_drewN P4.out.grown _⟩
  case neg =>
    have dl : decide ((f1.length : Int) ≤ (f2.length : Int)) = false := decide_eq_false (by omega)
    by_cases k1 : strL s1 = strL s2
    · rw [decide_eq_true k1] at hp
      by_cases k2 : A = B
      · exact absurd (hbi.2 ⟨k1, k2⟩).1 hle
      · rw [decide_eq_false k2] at HSL
        clear k1 k2 hbi hy
        go_enter Tryd.func8, Tryd.ntmps8
        go_wp2_with (first
          | (go_at_call 27; rw [← HW.out]; refine HAl.out.mono ?_; rintro e w2 ⟨rfl, hg2⟩; have P2 := Lib.hid (HP.out.grow hg2); have a0 := P2.out.a0; have a1 := P2.out.a1; have b0 := P2.out.b0; have b1 := P2.out.b1; clear hg2)
          | (go_at_call 28; (first | (with_reducible refine (HL1.out w2 P2.out.grown).mono ?_) | (with_reducible refine (HL2.out w2 P2.out.grown).mono ?_)); rintro e w3 ⟨rfl, hw3⟩; have hw3' := hw3.symm; subst hw3'; clear hw3)
          | (go_at_call 33; with_reducible refine (HF1.out w2 P2.out.grown).mono ?_; rintro e w3 ⟨g1, c1, rfl, hg3, hB3, hc1⟩; have B3 := Lib.hid hB3; clear hB3; have P3 := Lib.hid (P2.out.grow hg3); have a0 := P3.out.a0; have a1 := P3.out.a1; have b0 := P3.out.b0; have b1 := P3.out.b1; clear hg3)
          | (go_at_call 33; with_reducible refine (HF2.out w3 P3.out.grown).mono ?_; rintro e w4 ⟨g2, c2, rfl, hg4, hB4, hc2⟩; have B4 := Lib.hid hB4; clear hB4; have B3' := Lib.hid (B3.out.grown hg4); have P4 := Lib.hid (P3.out.grow hg4); have a0 := P4.out.a0; have a1 := P4.out.a1; have b0 := P4.out.b0; have b1 := P4.out.b1; clear hg4)
          | (go_at_call 37; with_reducible refine (HSL.out w4 P4.out.grown).mono ?_; rintro e w5 ⟨rfl, hg5⟩; have P5 := Lib.hid (P4.out.grow hg5); have G5 := Lib.hid hg5; clear hg5))
        go_quiet (fail)
        go_wp2
        go_ret
        exact ⟨rfl, grown_drewN P5.out.grown _⟩
    · rw [decide_eq_false k1] at hp
      clear k1 hbi hy
      go_enter Tryd.func8, Tryd.ntmps8
      go_wp2_with (first
        | (go_at_call 27; rw [← HW.out]; refine HAl.out.mono ?_; rintro e w2 ⟨rfl, hg2⟩; have P2 := Lib.hid (HP.out.grow hg2); have a0 := P2.out.a0; have a1 := P2.out.a1; have b0 := P2.out.b0; have b1 := P2.out.b1; clear hg2)
        | (go_at_call 28; (first | (with_reducible refine (HL1.out w2 P2.out.grown).mono ?_) | (with_reducible refine (HL2.out w2 P2.out.grown).mono ?_)); rintro e w3 ⟨rfl, hw3⟩; have hw3' := hw3.symm; subst hw3'; clear hw3)
        | (go_at_call 33; with_reducible refine (HF1.out w2 P2.out.grown).mono ?_; rintro e w3 ⟨g1, c1, rfl, hg3, hB3, hc1⟩; have B3 := Lib.hid hB3; clear hB3; have P3 := Lib.hid (P2.out.grow hg3); have a0 := P3.out.a0; have a1 := P3.out.a1; have b0 := P3.out.b0; have b1 := P3.out.b1; clear hg3)
        | (go_at_call 33; with_reducible refine (HF2.out w3 P3.out.grown).mono ?_; rintro e w4 ⟨g2, c2, rfl, hg4, hB4, hc2⟩; have B4 := Lib.hid hB4; clear hB4; have B3' := Lib.hid (B3.out.grown hg4); have P4 := Lib.hid (P3.out.grow hg4); have a0 := P4.out.a0; have a1 := P4.out.a1; have b0 := P4.out.b0; have b1 := P4.out.b1; clear hg4)
        | (go_at_call 37; with_reducible refine (HSL.out w4 P4.out.grown).mono ?_; rintro e w5 ⟨rfl, hg5⟩; have P5 := Lib.hid (P4.out.grow hg5); have G5 := Lib.hid hg5; clear hg5))
      go_quiet (fail)
      go_wp2
      go_ret
      exact ⟨rfl, grown_drewN P4.out.grown _⟩
end Go.Proofs.YtckdkcfhkakcfaaDoor
