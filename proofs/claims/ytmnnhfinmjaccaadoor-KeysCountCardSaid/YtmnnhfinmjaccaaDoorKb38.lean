import Derived.Test.YtmnnhfinmjaccaaDoorKb37
namespace Go.Proofs.YtmnnhfinmjaccaaDoor
open Go.RowKit Go.Maps
open Go.ChangeMaps (setBlock)
set_option linter.unusedVariables false
/-- What a call that turns one of a ring's maps leaves. -/
structure TurnG (w w' : World) (b : Nat) (old : Option Nat) (g : Nat) (L : List (Value × Value)) : Prop where
  upto : Upto (fun k => k = b ∨ old = some k) w w'
  map : MapL w' g L
  from_ : old = some g ∨ old = none ∧ w.heap.size ≤ g
theorem upto_setB {w w5 : World} {b n : Nat} {old : Option Nat} {g : Nat} (h : Upto (fun k => k = b ∨ old = some k) w w5) (hg : old = some g ∨ w.heap.size ≤ g) (o : Obj) : Upto (fun k => k = b ∨ old = some k) w (setBlock (w5.drewN n) g o) := by
  have h2 := setB_grown (w := w5.drewN n) (b := g) o
  refine ⟨h2.os.trans h.os, h2.tape.trans h.tape, h2.output.trans h.output, Nat.le_trans h.size h2.size, fun k hk hn => ?_⟩
  refine (h2.block k (Nat.lt_of_lt_of_le hk h.size) (fun e => ?_)).trans (h.block k hk hn)
  have e := Option.some.inj e
  subst e
  rcases hg with hg | hg
  · exact hn (.inr hg)
  · omega
set_option maxRecDepth 100000 in
set_option maxHeartbeats 1000000 in
/-- Where it has keys. -/
theorem gadd_some (A : Nat → Addr) (w : World) (b g : Nat) (ov : Value) (s : Rg) (va : Option Addr) (vc : Nat) (k : List Nat) (hs : GoodG s) (hm : MapL w g (s.ks.map keyP)) (hb : w.heap[b]? = some (.cells #[.map (some g), ov] 83 (0, 0))) (hE : AllErrs w A) (hL : Laid w)
    (hk : k.length = 32) (hB : Bytes w (.slice va 32 vc) k) :
    Calls Tryd.prog 18 #[.pointer (some ⟨b, 0, none⟩), .slice va 32 vc] w fun e w' => e = .returned (.tuple #[.string (idText k), .nilIface]) ∧ TurnG w w' b (some g) g ((s.add (idText k) k).ks.map keyP) ∧ (b ≠ g → w'.heap[b]? = w.heap[b]?) := by
  have c0 := cell_blk hb 0 rfl
  have hq := run_eql_map_nil (P := Tryd.prog) w (some g) mapKT
  obtain ⟨K, hK⟩ : ∃ K, K = bytesV k := ⟨_, rfl⟩
  have hKs : K.size = 32 := by rw [hK, bytesV_size, hk]
  have hz32 := zeros32_at w
  have HDd : Hid (bytesV (k ++ (List.replicate 32 0).drop k.length) = K) := Lib.hid (by rw [hK, hk]; simp)
  have HZl : Hid ((List.replicate 32 0 : List Nat).length = 32) := Lib.hid rfl
  have HK32 : Hid (k.length ≤ 32) := Lib.hid (by omega)
  have HB := Lib.hid hB
  have HIr : Hid ((Tryd.prog.info? 64).map (·.size) = some K.toList.length) := Lib.hid (by rw [Array.length_toList, hKs]; kernel_rfl)
  obtain ⟨Y, hY⟩ : ∃ Y, Y = idText k := ⟨_, rfl⟩
  have hYs : Y.size = 32 := by
    rw [hY, idText, strOf_size, hexL_len, List.length_take, hmac_len]; rfl
  have HID : Hid (∀ W, w.grownBy W none → Calls Tryd.prog 32 #[.slice va 32 vc] W fun e w' => e = .returned (.string Y) ∧ W.grownBy w' none) := Lib.hid (fun W hW => by
    have := macID_any (.slice va 32 vc) k W (hB.grown hW) (by omega) (hL.grown hW (by simp) (by simp)) _ _ (errs_of_all2 (hE.grown hW))
    rw [hY]; exact this)
  obtain ⟨es', cl', hu, hes⟩ := ks_put hs hm Y k (by omega)
  rw [← hK] at hu
  rw [← hY, ← hes]
  have HU := Lib.hid hu
  have HGL : Hid (g < w.heap.size) := Lib.hid hm.lt
  have HBB := Lib.hid hb
  clear hb hE hL hK hKs hk hB hY hYs hu hes hm hs
  go_enter Tryd.func18, Tryd.ntmps18
  go_wp2_with (first
    | (refine wpList_copyB (by rfl) (.tmp 21) (.tmp 22) 22 22 (by rfl) Tryd.underlying22 (by kernel_rfl) (b := w.heap.size) (N := 32) (Z := List.replicate 32 0) (l := k) (T := 64) (v := .slice va 32 vc) (by rfl) (by rfl) (alloc_at w _) HZl.out (HB.out.grown (World.grownBy_alloc _ _ _)) HK32.out ?_; intro w2 hb2 hg2; rw [HDd.out] at hb2; have B2 := Lib.hid hb2; have G2 : Hid (w.grownBy w2 none) := Lib.hid (grown_forget (World.grownBy_alloc w _ none) (Nat.le_refl _) hg2); clear hb2 hg2)
    | (go_at_call 32; refine (HID.out w2 G2.out).mono ?_; rintro e w3 ⟨rfl, hg3⟩; have G3 := Lib.hid (grown_trans G2.out hg3); have B3 := Lib.hid ((hg3.block _ (blk_lt B2.out) (by simp)).trans B2.out); clear hg3))
  refine wp_region_quiet_tail (fun w' => ∃ n, w' = w3.drewN n) 6 (by kernel_rfl) (by kernel_rfl) ⟨1, rfl⟩ ?_
  simp only [List.take_succ_cons, List.take_zero, List.drop_succ_cons, List.drop_zero]
  have c3 : w3.cell? ⟨b, 0, none⟩ = some (.map (some g)) := by
    rw [World.cell?_of_block (G3.out.block b (blk_lt HBB.out) (by simp))]; exact c0
  iterate 5 (go_big_quiet_step (fail))
  refine wpQuiet_load_mid (by rfl) 64 (.tmp 6) (by rfl) w.heap.size 0 (by rfl) K.toList _ (fun w' hw' => by
    obtain ⟨n, rfl⟩ := hw'
    exact range_all (w := w3) B3.out) Tryd.underlying64 rfl HIr.out ?_
  refine wpQuiet_nil ?_
  rintro _ ⟨n3, rfl⟩
  simp only [Act.put, List.setIfInBounds_toArray, List.set_cons_succ, List.set_cons_zero]
  refine wpList_upd (by rfl) (.tmp 29) (.tmp 30) (.tmp 31) (by rfl) _ _ _ (by rfl) (by rfl) (by rfl) (HU.out (w3.drewN n3) (G3.out.block g HGL.out (by simp))) ?_
  go_wp2
  go_returns
  refine ⟨rfl, ⟨upto_setB (Upto.of_grown _ G3.out) (.inl rfl) _, mapL_set (Nat.lt_of_lt_of_le HGL.out G3.out.size) _ _, .inl rfl⟩, fun hne => ?_⟩
  have hbl := blk_lt HBB.out
  exact ((setB_grown (w := w3.drewN n3) (b := g) _).block b (Nat.lt_of_lt_of_le hbl G3.out.size) (fun e => hne (Option.some.inj e))).trans (G3.out.block b hbl (by simp))
end Go.Proofs.YtmnnhfinmjaccaaDoor
namespace Go.Proofs.YtmnnhfinmjaccaaDoor
open Go.RowKit Go.Maps
open Go.ChangeMaps (setBlock)
set_option linter.unusedVariables false
set_option maxRecDepth 100000 in
set_option maxHeartbeats 1000000 in
/-- Where it has none. -/
theorem gadd_none (A : Nat → Addr) (W0 w : World) (b : Nat) (ov : Value) (s : Rg) (va : Option Addr) (vc : Nat) (k : List Nat) (hs : GoodG s) (he : s.ks = []) (hb : w.heap[b]? = some (.cells #[.map none, ov] 83 (0, 0))) (hE : AllErrs W0 A) (hL : Laid W0) (h0 : W0.grownBy w none) (hb0 : W0.heap.size ≤ b)
    (hk : k.length = 32) (hB : ∀ W, Upto (fun j => j = b) w W → Bytes W (.slice va 32 vc) k) :
    Calls Tryd.prog 18 #[.pointer (some ⟨b, 0, none⟩), .slice va 32 vc] w fun e w' => e = .returned (.tuple #[.string (idText k), .nilIface]) ∧ TurnG w w' b none w.heap.size ((s.add (idText k) k).ks.map keyP) ∧ w'.heap[b]? = some (.cells #[.map (some w.heap.size), ov] 83 (0, 0)) := by
  have c0 := cell_blk hb 0 rfl
  have hq := run_eql_map_nil (P := Tryd.prog) w none mapKT
  have hmm := @run_makeMap Tryd.prog
  have f1 : (w.alloc (.map #[] 0)).frozen? ⟨b, 0, none⟩ = false := free_blk (alloc_keep hb) 0
  have c1 : (w.alloc (.map #[] 0)).cell? ⟨b, 0, none⟩ = some (.map none) := cell_blk (alloc_keep hb) 0 rfl
  have hbl := blk_lt hb
  have hbn : ¬ w.heap.size = b := by omega
  obtain ⟨W1, hW1⟩ : ∃ W1, W1 = (w.alloc (.map #[] 0)).setCell ⟨b, 0, none⟩ (.map (some w.heap.size)) := ⟨_, rfl⟩
  have s1 : W1.heap.size = w.heap.size + 1 := by rw [hW1, setCell_size, alloc_size]
  have S1 := Lib.hid s1
  have m1 : MapL W1 w.heap.size [] := by
    rw [hW1]
    exact mapL_of (mapL_new w) (Below.heap_setCell _ _ _ _ hbn)
  have b1 : W1.heap[b]? = some (.cells #[.map (some w.heap.size), ov] 83 (0, 0)) := by
    rw [hW1]
    have := setCell_heap (i := 0) (alloc_keep (o := .map #[] 0) hb) (.map (some w.heap.size))
    simpa using this
  have u1 : Upto (fun k => k = b ∨ (none : Option Nat) = some k) w W1 := by
    rw [hW1]
    refine ⟨rfl, rfl, rfl, by rw [setCell_size, alloc_size]; omega, fun k hk hn => ?_⟩
    exact (Below.heap_setCell _ _ _ _ (fun e => hn (.inl e))).trans (alloc_old _ _ _ hk)
  have g1 : ∀ {W}, W1.grownBy W none → Upto (fun k => k = b ∨ (none : Option Nat) = some k) w W := fun h => u1.trans (Upto.of_grown (fun _ => False) h) (fun _ _ h => h.elim)
  obtain ⟨K, hK⟩ : ∃ K, K = bytesV k := ⟨_, rfl⟩
  have hKs : K.size = 32 := by rw [hK, bytesV_size, hk]
  have hz32 := zeros32_at w
  have HDd : Hid (bytesV (k ++ (List.replicate 32 0).drop k.length) = K) := Lib.hid (by rw [hK, hk]; simp)
  have HZl : Hid ((List.replicate 32 0 : List Nat).length = 32) := Lib.hid rfl
  have HK32 : Hid (k.length ≤ 32) := Lib.hid (by omega)
  have u0 : Upto (fun j => j = b) w W1 := u1.mono (fun k _ hk => hk.elim id (fun e => by cases e))
  have g0 : W0.grownBy W1 none := u0.base h0 (fun k hk => by rw [hk]; exact hb0)
  have hB := hB W1 u0
  have HB := Lib.hid hB
  have HIr : Hid ((Tryd.prog.info? 64).map (·.size) = some K.toList.length) := Lib.hid (by rw [Array.length_toList, hKs]; kernel_rfl)
  obtain ⟨Y, hY⟩ : ∃ Y, Y = idText k := ⟨_, rfl⟩
  have hYs : Y.size = 32 := by
    rw [hY, idText, strOf_size, hexL_len, List.length_take, hmac_len]; rfl
  have HID : Hid (∀ W, W1.grownBy W none → Calls Tryd.prog 32 #[.slice va 32 vc] W fun e w' => e = .returned (.string Y) ∧ W.grownBy w' none) := Lib.hid (fun W hW => by
    have := macID_any (.slice va 32 vc) k W (hB.grown hW) (by omega) ((hL.grown g0 (by simp) (by simp)).grown hW (by simp) (by simp)) _ _ (errs_of_all2 ((hE.grown g0).grown hW))
    rw [hY]; exact this)
  obtain ⟨es', cl', hu, hes⟩ := ks_put hs (w := W1) (g := w.heap.size) (by rw [he]; exact m1) Y k (by omega)
  rw [← hK] at hu
  rw [← hY, ← hes]
  have HU := Lib.hid hu
  have HBB := Lib.hid b1
  have HU1 := Lib.hid u1
  have HW1 := Lib.hid hW1
  clear hb hE hL hK hKs hk hB hY hYs hu hes he hs h0 hb0 u0 g0 u1 g1 m1 b1 hbl hW1 s1
  go_enter Tryd.func18, Tryd.ntmps18
  go_wp2_with (first
    | (rw [← HW1.out]; refine wpList_copyB (by rfl) (.tmp 21) (.tmp 22) 22 22 (by rfl) Tryd.underlying22 (by kernel_rfl) (b := W1.heap.size) (N := 32) (Z := List.replicate 32 0) (l := k) (T := 64) (v := .slice va 32 vc) (by rw [S1.out]; rfl) (by rfl) (alloc_at W1 _) HZl.out (HB.out.grown (World.grownBy_alloc _ _ _)) HK32.out ?_; intro w2 hb2 hg2; rw [HDd.out] at hb2; have B2 := Lib.hid hb2; have G2 : Hid (W1.grownBy w2 none) := Lib.hid (grown_forget (World.grownBy_alloc W1 _ none) (Nat.le_refl _) hg2); clear hb2 hg2)
    | (go_at_call 32; refine (HID.out w2 G2.out).mono ?_; rintro e w3 ⟨rfl, hg3⟩; have G3 := Lib.hid (grown_trans G2.out hg3); have B3 := Lib.hid ((hg3.block _ (blk_lt B2.out) (by simp)).trans B2.out); clear hg3))
  refine wp_region_quiet_tail (fun w' => ∃ n, w' = w3.drewN n) 6 (by kernel_rfl) (by kernel_rfl) ⟨1, rfl⟩ ?_
  simp only [List.take_succ_cons, List.take_zero, List.drop_succ_cons, List.drop_zero]
  have c3 : w3.cell? ⟨b, 0, none⟩ = some (.map (some w.heap.size)) := by
    rw [World.cell?_of_block (G3.out.block b (blk_lt HBB.out) (by simp))]; exact cell_blk HBB.out 0 rfl
  iterate 5 (go_big_quiet_step (fail))
  refine wpQuiet_load_mid (by rfl) 64 (.tmp 6) (by rfl) W1.heap.size 0 (by rw [S1.out]; rfl) K.toList _ (fun w' hw' => by
    obtain ⟨n, rfl⟩ := hw'
    exact range_all (w := w3) B3.out) Tryd.underlying64 rfl HIr.out ?_
  refine wpQuiet_nil ?_
  rintro _ ⟨n3, rfl⟩
  simp only [Act.put, List.setIfInBounds_toArray, List.set_cons_succ, List.set_cons_zero]
  refine wpList_upd (by rfl) (.tmp 29) (.tmp 30) (.tmp 31) (by rfl) _ _ _ (by rfl) (by rfl) (by rfl) (HU.out (w3.drewN n3) (G3.out.block w.heap.size (by rw [S1.out]; omega) (by simp))) ?_
  go_wp2
  go_returns
  have hg1 : w.heap.size < W1.heap.size := by rw [S1.out]; omega
  refine ⟨rfl, ⟨upto_setB (HU1.out.trans (Upto.of_grown (fun _ => False) G3.out) (fun _ _ h => h.elim)) (.inr (Nat.le_refl _)) _, mapL_set (Nat.lt_of_lt_of_le hg1 G3.out.size) _ _, .inr ⟨rfl, Nat.le_refl _⟩⟩, ?_⟩
  refine ((setB_grown (w := w3.drewN n3) (b := w.heap.size) _).block b (blk_lt ((G3.out.block b (blk_lt HBB.out) (by simp)).trans HBB.out)) (fun e => ?_)).trans ((G3.out.block b (blk_lt HBB.out) (by simp)).trans HBB.out)
  exact hbn (Option.some.inj e).symm
end Go.Proofs.YtmnnhfinmjaccaaDoor
