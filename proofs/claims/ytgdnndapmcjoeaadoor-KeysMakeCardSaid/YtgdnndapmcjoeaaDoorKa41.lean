import Derived.Test.YtgdnndapmcjoeaaDoorKa40
namespace Go.Proofs.YtgdnndapmcjoeaaDoor
open Go.RowKit Go.Maps
open Go.ChangeMaps (setBlock)
set_option linter.unusedVariables false
/-- What a call that turns one of a ring's maps leaves. -/
structure TurnG (w w' : World) (b : Nat) (old : Option Nat) (g : Nat) (L : List (Value × Value)) : Prop where
  upto : Upto (fun k => k = b ∨ old = some k) w w'
  map : MapL w' g L
  from_ : old = some g ∨ old = none ∧ w.heap.size ≤ g
theorem upto_setB {w w5 : World} {b n : Nat} {old : Option Nat} {g : Nat} (h : Upto (fun k => k = b ∨ old = some k) w w5) (hg : old = some g ∨ w.heap.size ≤ g) (o : Obj) : Upto (fun k => k = b ∨ old = some k) w (setBlock (w5.drewN n) g o) := by
  have h2 := setB_grown (w := w5.drewN n) (b := g) o
  refine ⟨h2.os.trans h.os, h2.tape.trans h.tape, h2.output.trans h.output, Nat.le_trans h.size h2.size, fun k hk hn => ?_⟩
  refine (h2.block k (Nat.lt_of_lt_of_le hk h.size) (fun e => ?_)).trans (h.block k hk hn)
  have e := Option.some.inj e
  subst e
  rcases hg with hg | hg
  · exact hn (.inr hg)
  · omega
set_option maxRecDepth 100000 in
set_option maxHeartbeats 400000 in
/-- Whether it has a key. -/
theorem ghas_any (w : World) (b : Nat) (mk : Option Nat) (ov : Value) (s : Rg) (id : ByteArray) (hi : id.size ≤ 1000) (hs : GoodG s) (hm : MapO w mk (s.ks.map keyP)) (hb : w.heap[b]? = some (.cells #[.map mk, ov] 83 (0, 0))) :
    Calls Tryd.prog 17 #[.pointer (some ⟨b, 0, none⟩), .string id] w fun e w' => e = .returned (.bool (s.get id).isSome) ∧ w.grownBy w' none := by
  have c0 := cell_blk hb 0 rfl
  have hl := ks_look hs hm id hi
  obtain ⟨K, q, hK, hq, hlk⟩ : ∃ (K : Array Value) (q : Bool), K.size = 32 ∧ q = (s.get id).isSome ∧ (Instr.lookup 80 (.map mk) (.string id) true).run Tryd.prog w = .ok (.tuple #[.agg K, .bool q]) w ∧ K.all (·.oneCell') = true := by
    cases hg : s.get id with
    | none => exact ⟨zeros32, false, rfl, rfl, by rw [hl, hg], bytesV_one _⟩
    | some k => exact ⟨bytesV k, true, by rw [bytesV_size, (hs.got hg).2.1], rfl, by rw [hl, hg], bytesV_one _⟩
  have Z0 := Lib.hid (alloc_at w (.cells zeros32 64))
  have HI : Hid ((Tryd.prog.info? 64).map (·.size) = some K.size) := Lib.hid (by rw [hK]; kernel_rfl)
  have HIz : Hid (zeros32.size = K.size) := Lib.hid (by rw [hK]; rfl)
  have HO := Lib.hid hlk.2
  have hlk := hlk.1
  have hz32 := zeros32_at w
  rw [← hq]
  clear hq hl hm hs hb hi hK
  go_enter Tryd.func17, Tryd.ntmps17
  go_wp2_with (refine wpList_store_row (by rfl) 64 (.tmp 5) (.tmp 14) (by rfl) w.heap.size K (by rfl) (by rfl) _ _ Z0.out HI.out HIz.out HO.out ?_)
  go_ret
  exact ⟨rfl, grown_setRow (World.grownBy_alloc _ _ _) (Nat.le_refl _) _⟩
set_option maxRecDepth 100000 in
set_option maxHeartbeats 1000000 in
/-- A key's number that it has already. -/
theorem gadd_has (A : Nat → Addr) (w : World) (b : Nat) (mk : Option Nat) (ov : Value) (s : Rg) (va : Option Addr) (vc : Nat) (k k0 : List Nat) (hs : GoodG s) (hm : MapO w mk (s.ks.map keyP)) (hb : w.heap[b]? = some (.cells #[.map mk, ov] 83 (0, 0))) (hE : AllErrs w A) (hL : Laid w)
    (hk : k.length = 32) (hB : Bytes w (.slice va 32 vc) k) (hg : s.get (idText k) = some k0) :
    Calls Tryd.prog 18 #[.pointer (some ⟨b, 0, none⟩), .slice va 32 vc] w fun e w' => e = .returned (.tuple #[.string (idText k), .nilIface]) ∧ w.grownBy w' none := by
  obtain ⟨Y, hY⟩ : ∃ Y, Y = idText k := ⟨_, rfl⟩
  have hYs : Y.size = 32 := by
    rw [hY, idText, strOf_size, hexL_len, List.length_take, hmac_len]; rfl
  have HID : Hid (Calls Tryd.prog 32 #[.slice va 32 vc] w fun e w' => e = .returned (.string Y) ∧ w.grownBy w' none) := Lib.hid (by
    have := macID_any (.slice va 32 vc) k w hB (by omega) hL _ _ (errs_of_all2 hE)
    rw [hY]; exact this)
  have HHs : Hid (∀ W, w.grownBy W none → Calls Tryd.prog 17 #[.pointer (some ⟨b, 0, none⟩), .string Y] W fun e w' => e = .returned (.bool true) ∧ W.grownBy w' none) := Lib.hid (fun W hW => by
    have := ghas_any W b mk ov s Y (by omega) hs (hm.of (fun q hq => hW.block q (by subst hq; exact MapL.lt hm) (by simp))) ((hW.block _ (blk_lt hb) (by simp)).trans hb)
    rw [hY, hg] at this
    rw [hY]; exact this)
  rw [← hY]
  clear hb hE hL hk hB hY hYs hm hs hg
  go_enter Tryd.func18, Tryd.ntmps18
  go_wp2_with (first
    | (go_at_call 32; refine HID.out.mono ?_; rintro e w1 ⟨rfl, hg1⟩; have G1 := Lib.hid hg1; clear hg1)
    | (go_at_call 17; refine (HHs.out w1 G1.out).mono ?_; rintro e w2 ⟨rfl, hg2⟩; have G2 := Lib.hid (grown_trans G1.out hg2); clear hg2))
  go_returns
  exact ⟨rfl, G2.out⟩
set_option maxRecDepth 100000 in
set_option maxHeartbeats 1000000 in
/-- Where it has keys. -/
theorem gadd_some (A : Nat → Addr) (w : World) (b g : Nat) (ov : Value) (s : Rg) (va : Option Addr) (vc : Nat) (k : List Nat) (hs : GoodG s) (hm : MapL w g (s.ks.map keyP)) (hb : w.heap[b]? = some (.cells #[.map (some g), ov] 83 (0, 0))) (hE : AllErrs w A) (hL : Laid w)
    (hk : k.length = 32) (hB : Bytes w (.slice va 32 vc) k) (hgt : s.get (idText k) = none) :
    Calls Tryd.prog 18 #[.pointer (some ⟨b, 0, none⟩), .slice va 32 vc] w fun e w' => e = .returned (.tuple #[.string (idText k), .nilIface]) ∧ TurnG w w' b (some g) g ((s.add (idText k) k).ks.map keyP) ∧ (b ≠ g → w'.heap[b]? = w.heap[b]?) := by
  obtain ⟨K, hK⟩ : ∃ K, K = bytesV k := ⟨_, rfl⟩
  have hKs : K.size = 32 := by rw [hK, bytesV_size, hk]
  have HDd : Hid (bytesV (k ++ (List.replicate 32 0).drop k.length) = K) := Lib.hid (by rw [hK, hk]; simp)
  have HZl : Hid ((List.replicate 32 0 : List Nat).length = 32) := Lib.hid rfl
  have HK32 : Hid (k.length ≤ 32) := Lib.hid (by omega)
  have HB := Lib.hid hB
  have HIr : Hid ((Tryd.prog.info? 64).map (·.size) = some K.toList.length) := Lib.hid (by rw [Array.length_toList, hKs]; kernel_rfl)
  obtain ⟨Y, hY⟩ : ∃ Y, Y = idText k := ⟨_, rfl⟩
  have hYs : Y.size = 32 := by
    rw [hY, idText, strOf_size, hexL_len, List.length_take, hmac_len]; rfl
  have HID : Hid (∀ W, w.grownBy W none → Calls Tryd.prog 32 #[.slice va 32 vc] W fun e w' => e = .returned (.string Y) ∧ W.grownBy w' none) := Lib.hid (fun W hW => by
    have := macID_any (.slice va 32 vc) k W (hB.grown hW) (by omega) (hL.grown hW (by simp) (by simp)) _ _ (errs_of_all2 (hE.grown hW))
    rw [hY]; exact this)
  have HHs : Hid (∀ W, w.grownBy W none → Calls Tryd.prog 17 #[.pointer (some ⟨b, 0, none⟩), .string Y] W fun e w' => e = .returned (.bool false) ∧ W.grownBy w' none) := Lib.hid (fun W hW => by
    have := ghas_any W b (some g) ov s Y (by omega) hs (mapL_of hm (hW.block g hm.lt (by simp))) ((hW.block _ (blk_lt hb) (by simp)).trans hb)
    rw [hY, hgt] at this
    rw [hY]; exact this)
  obtain ⟨es', cl', hu, hes⟩ := ks_put hs hm Y k (by omega) (by rw [hY]; exact hgt)
  rw [← hK] at hu
  rw [← hY, ← hes]
  have HU := Lib.hid hu
  have HGL : Hid (g < w.heap.size) := Lib.hid hm.lt
  have HBB := Lib.hid hb
  clear hb hE hL hK hKs hk hB hY hYs hu hes hm hs hgt
  go_enter Tryd.func18, Tryd.ntmps18
  go_wp2_with (first
    | (go_at_call 32; refine (HID.out w (grown_refl _ _)).mono ?_; rintro e w1 ⟨rfl, hg1⟩; have G1 := Lib.hid hg1; clear hg1)
    | (go_at_call 17; refine (HHs.out w1 G1.out).mono ?_; rintro e w2 ⟨rfl, hg2⟩; have G2 := Lib.hid (grown_trans G1.out hg2); have hq := run_eql_map_nil (P := Tryd.prog) w2 (some g) mapKT; have hz32 := zeros32_at w2; have c0 : w2.cell? ⟨b, 0, none⟩ = some (.map (some g)) := (by rw [World.cell?_of_block (G2.out.block b (blk_lt HBB.out) (by simp))]; exact cell_blk HBB.out 0 rfl); clear hg2)
    | (refine wpList_copyB (by rfl) (.tmp 27) (.tmp 28) 22 22 (by rfl) Tryd.underlying22 (by kernel_rfl) (b := w2.heap.size) (N := 32) (Z := List.replicate 32 0) (l := k) (T := 64) (v := .slice va 32 vc) (by rfl) (by rfl) (alloc_at w2 _) HZl.out (HB.out.grown (grown_trans G2.out (World.grownBy_alloc _ _ _))) HK32.out ?_; intro w3 hb3 hg3; rw [HDd.out] at hb3; have B3 := Lib.hid hb3; have G3 : Hid (w.grownBy w3 none) := Lib.hid (grown_trans G2.out (grown_forget (World.grownBy_alloc w2 _ none) (Nat.le_refl _) hg3)); clear hb3 hg3))
  refine wp_region_quiet_tail (fun w' => ∃ n, w' = w3.drewN n) 6 (by kernel_rfl) (by kernel_rfl) ⟨1, rfl⟩ ?_
  simp only [List.take_succ_cons, List.take_zero, List.drop_succ_cons, List.drop_zero, Act.put, List.setIfInBounds_toArray, List.set_cons_succ, List.set_cons_zero]
  have c3 : w3.cell? ⟨b, 0, none⟩ = some (.map (some g)) := by
    rw [World.cell?_of_block (G3.out.block b (blk_lt HBB.out) (by simp))]; exact cell_blk HBB.out 0 rfl
  iterate 5 (go_big_quiet_step (fail))
  refine wpQuiet_load_mid (by rfl) 64 (.tmp 7) (by rfl) w2.heap.size 0 (by rfl) K.toList _ (fun w' hw' => by
    obtain ⟨n, rfl⟩ := hw'
    exact range_all (w := w3) B3.out) Tryd.underlying64 rfl HIr.out ?_
  refine wpQuiet_nil ?_
  rintro _ ⟨n3, rfl⟩
  simp only [Act.put, List.setIfInBounds_toArray, List.set_cons_succ, List.set_cons_zero]
  refine wpList_upd (by rfl) (.tmp 33) (.tmp 34) (.tmp 35) (by rfl) _ _ _ (by rfl) (by rfl) (by rfl) (HU.out (w3.drewN n3) (G3.out.block g HGL.out (by simp))) ?_
  go_wp2
  go_returns
  refine ⟨rfl, ⟨upto_setB (Upto.of_grown _ G3.out) (.inl rfl) _, mapL_set (Nat.lt_of_lt_of_le HGL.out G3.out.size) _ _, .inl rfl⟩, fun hne => ?_⟩
  have hbl := blk_lt HBB.out
  exact ((setB_grown (w := w3.drewN n3) (b := g) _).block b (Nat.lt_of_lt_of_le hbl G3.out.size) (fun e => hne (Option.some.inj e))).trans (G3.out.block b hbl (by simp))
end Go.Proofs.YtgdnndapmcjoeaaDoor
namespace Go.Proofs.YtgdnndapmcjoeaaDoor
open Go.RowKit Go.Maps
open Go.ChangeMaps (setBlock)
set_option linter.unusedVariables false
/-- A first map of a ring is made. -/
theorem made_map0 {w : World} {b : Nat} {ov : Value} (hb : w.heap[b]? = some (.cells #[.map none, ov] 83 (0, 0))) :
    ∃ W1, W1 = (w.alloc (.map #[] 0)).setCell ⟨b, 0, none⟩ (.map (some w.heap.size)) ∧ W1.heap.size = w.heap.size + 1 ∧ MapL W1 w.heap.size [] ∧ W1.heap[b]? = some (.cells #[.map (some w.heap.size), ov] 83 (0, 0)) ∧ Upto (fun k => k = b) w W1 := by
  have hbl := blk_lt hb
  refine ⟨_, rfl, by rw [setCell_size, alloc_size], mapL_of (mapL_new w) (Below.heap_setCell _ _ _ _ (by show ¬ w.heap.size = b; omega)), ?_, rfl, rfl, rfl, by rw [setCell_size, alloc_size]; omega, fun k hk hn => ?_⟩
  · have := setCell_heap (i := 0) (alloc_keep (o := .map #[] 0) hb) (.map (some w.heap.size))
    simpa using this
  · exact (Below.heap_setCell _ _ _ _ hn).trans (alloc_old _ _ _ hk)
set_option maxRecDepth 100000 in
set_option maxHeartbeats 1000000 in
/-- Where it has none. -/
theorem gadd_none (A : Nat → Addr) (W0 w : World) (b : Nat) (ov : Value) (s : Rg) (va : Option Addr) (vc : Nat) (k : List Nat) (hs : GoodG s) (he : s.ks = []) (hb : w.heap[b]? = some (.cells #[.map none, ov] 83 (0, 0))) (hE : AllErrs W0 A) (hL : Laid W0) (h0 : W0.grownBy w none) (hb0 : W0.heap.size ≤ b)
    (hk : k.length = 32) (hB : ∀ W, Upto (fun j => j = b) w W → Bytes W (.slice va 32 vc) k) :
    Calls Tryd.prog 18 #[.pointer (some ⟨b, 0, none⟩), .slice va 32 vc] w fun e w' => ∃ g, e = .returned (.tuple #[.string (idText k), .nilIface]) ∧ TurnG w w' b none g ((s.add (idText k) k).ks.map keyP) ∧ w'.heap[b]? = some (.cells #[.map (some g), ov] 83 (0, 0)) := by
  have hgt : s.get (idText k) = none := by unfold Rg.get; rw [he]; rfl
  obtain ⟨K, hK⟩ : ∃ K, K = bytesV k := ⟨_, rfl⟩
  have hKs : K.size = 32 := by rw [hK, bytesV_size, hk]
  have HDd : Hid (bytesV (k ++ (List.replicate 32 0).drop k.length) = K) := Lib.hid (by rw [hK, hk]; simp)
  have HZl : Hid ((List.replicate 32 0 : List Nat).length = 32) := Lib.hid rfl
  have HK32 : Hid (k.length ≤ 32) := Lib.hid (by omega)
  have HB := Lib.hid hB
  have HIr : Hid ((Tryd.prog.info? 64).map (·.size) = some K.toList.length) := Lib.hid (by rw [Array.length_toList, hKs]; kernel_rfl)
  obtain ⟨Y, hY⟩ : ∃ Y, Y = idText k := ⟨_, rfl⟩
  have hYs : Y.size = 32 := by
    rw [hY, idText, strOf_size, hexL_len, List.length_take, hmac_len]; rfl
  have HID : Hid (Calls Tryd.prog 32 #[.slice va 32 vc] w fun e w' => e = .returned (.string Y) ∧ w.grownBy w' none) := Lib.hid (by
    have := macID_any (.slice va 32 vc) k w (hB w (Upto.refl _ _)) (by omega) (hL.grown h0 (by simp) (by simp)) _ _ (errs_of_all2 (hE.grown h0))
    rw [hY]; exact this)
  have HHs : Hid (∀ W, w.grownBy W none → Calls Tryd.prog 17 #[.pointer (some ⟨b, 0, none⟩), .string Y] W fun e w' => e = .returned (.bool false) ∧ W.grownBy w' none) := Lib.hid (fun W hW => by
    have := ghas_any W b none ov s Y (by omega) hs (by rw [he]; rfl) ((hW.block _ (blk_lt hb) (by simp)).trans hb)
    rw [hY, hgt] at this
    rw [hY]; exact this)
  obtain ⟨L, hLs⟩ : ∃ L, L = (s.add Y k).ks.map keyP := ⟨_, rfl⟩
  have HU : Hid (∀ (W : World) (g : Nat), MapL W g [] → ∃ es' clock', (∀ X : World, X.heap[g]? = W.heap[g]? → (Instr.mapUpdate 80 (.map (some g)) (.string Y) (.agg K)).run Tryd.prog X = .ok () (setBlock X g (.map es' clock'))) ∧ es'.toList.map (fun x => (x.key, x.val)) = L) := Lib.hid (fun W g hm => by
    rw [hLs, hK]
    exact ks_put hs (w := W) (g := g) (by rw [he]; exact hm) Y k (by omega) (by rw [hY]; exact hgt))
  rw [← hY, ← hLs]
  have HBB := Lib.hid hb
  have hmm := @run_makeMap Tryd.prog
  clear hb hE hL hK hKs hk hB hY hYs he hs h0 hb0 hgt hLs
  go_enter Tryd.func18, Tryd.ntmps18
  go_wp2_with (first
    | (go_at_call 32; refine HID.out.mono ?_; rintro e w1 ⟨rfl, hg1⟩; have G1 := Lib.hid hg1; clear hg1)
    | (go_at_call 17; refine (HHs.out w1 G1.out).mono ?_; rintro e w2 ⟨rfl, hg2⟩; have G2 := Lib.hid (grown_trans G1.out hg2); have hq := run_eql_map_nil (P := Tryd.prog) w2 none mapKT; have hz32 := zeros32_at w2; have hb2 := (G2.out.block b (blk_lt HBB.out) (by simp)).trans HBB.out; have HB2 := Lib.hid hb2; have c0 := cell_blk hb2 0 rfl; have f1 : (w2.alloc (.map #[] 0)).frozen? ⟨b, 0, none⟩ = false := free_blk (alloc_keep hb2) 0; have c1 : (w2.alloc (.map #[] 0)).cell? ⟨b, 0, none⟩ = some (.map none) := cell_blk (alloc_keep hb2) 0 rfl; obtain ⟨W1, hW1, s1, m1, b1, u1⟩ := made_map0 hb2; have HW1 := Lib.hid hW1; have HS1 := Lib.hid s1; have HM1 := Lib.hid m1; have HB1 := Lib.hid b1; have U1 : Hid (Upto (fun j => j = b) w W1) := Lib.hid ((Upto.of_grown (fun j => j = b) G2.out).trans u1 (fun _ _ h => h)); clear hg2 hb2 hW1 s1 m1 b1 u1)
    | (rw [← HW1.out]; refine wpList_copyB (by rfl) (.tmp 27) (.tmp 28) 22 22 (by rfl) Tryd.underlying22 (by kernel_rfl) (b := W1.heap.size) (N := 32) (Z := List.replicate 32 0) (l := k) (T := 64) (v := .slice va 32 vc) (by rw [HS1.out]; rfl) (by rfl) (alloc_at W1 _) HZl.out ((HB.out W1 U1.out).grown (World.grownBy_alloc _ _ _)) HK32.out ?_; intro w3 hb3 hg3; rw [HDd.out] at hb3; have B3 := Lib.hid hb3; have G3 : Hid (W1.grownBy w3 none) := Lib.hid (grown_forget (World.grownBy_alloc W1 _ none) (Nat.le_refl _) hg3); clear hb3 hg3))
  obtain ⟨es', cl', hu, hes⟩ := HU.out W1 w2.heap.size HM1.out
  have HU2 := Lib.hid hu
  have HES := Lib.hid hes
  clear hu hes
  refine wp_region_quiet_tail (fun w' => ∃ n, w' = w3.drewN n) 6 (by kernel_rfl) (by kernel_rfl) ⟨1, rfl⟩ ?_
  simp only [List.take_succ_cons, List.take_zero, List.drop_succ_cons, List.drop_zero, Act.put, List.setIfInBounds_toArray, List.set_cons_succ, List.set_cons_zero]
  have c3 : w3.cell? ⟨b, 0, none⟩ = some (.map (some w2.heap.size)) := by
    rw [World.cell?_of_block (G3.out.block b (blk_lt HB1.out) (by simp))]; exact cell_blk HB1.out 0 rfl
  iterate 5 (go_big_quiet_step (fail))
  refine wpQuiet_load_mid (by rfl) 64 (.tmp 7) (by rfl) W1.heap.size 0 (by rw [HS1.out]; rfl) K.toList _ (fun w' hw' => by
    obtain ⟨n, rfl⟩ := hw'
    exact range_all (w := w3) B3.out) Tryd.underlying64 rfl HIr.out ?_
  refine wpQuiet_nil ?_
  rintro _ ⟨n3, rfl⟩
  simp only [Act.put, List.setIfInBounds_toArray, List.set_cons_succ, List.set_cons_zero]
  have hg1 : w2.heap.size < W1.heap.size := by rw [HS1.out]; omega
  have Hg1 := Lib.hid hg1
  refine wpList_upd (by rfl) (.tmp 33) (.tmp 34) (.tmp 35) (by rfl) _ _ _ (by rfl) (by rfl) (by rfl) (HU2.out (w3.drewN n3) (G3.out.block w2.heap.size hg1 (by simp))) ?_
  clear hg1
  go_wp2
  go_returns
  have hg1 := Hg1.out
  have h2 := G2.out.size
  refine ⟨_, rfl, ⟨upto_setB ((U1.out.mono (fun k _ hk => .inl hk)).trans (Upto.of_grown (fun _ => False) G3.out) (fun _ _ h => h.elim)) (.inr h2) _, by rw [← HES.out]; exact mapL_set (Nat.lt_of_lt_of_le hg1 G3.out.size) _ _, .inr ⟨rfl, h2⟩⟩, ?_⟩
  refine ((setB_grown (w := w3.drewN n3) (b := w2.heap.size) _).block b (blk_lt ((G3.out.block b (blk_lt HB1.out) (by simp)).trans HB1.out)) (fun e => ?_)).trans ((G3.out.block b (blk_lt HB1.out) (by simp)).trans HB1.out)
  have := Option.some.inj e
  have := blk_lt HB2.out
  omega
end Go.Proofs.YtgdnndapmcjoeaaDoor
