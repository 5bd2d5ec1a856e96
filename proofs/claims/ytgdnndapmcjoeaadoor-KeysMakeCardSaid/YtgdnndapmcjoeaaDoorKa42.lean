import Derived.Test.YtgdnndapmcjoeaaDoorKa41
namespace Go.Proofs.YtgdnndapmcjoeaaDoor
open Go.RowKit Go.Maps
open Go.ChangeMaps (setBlock)
set_option linter.unusedVariables false
/-- What the book has of a message, as it lies. -/
def entA (k : List Nat) (b c : ByteArray) : Array Value := bytesV k ++ #[.string b, .string c]
theorem entA_size {k : List Nat} (hk : k.length = 32) (b c : ByteArray) : (entA k b c).size = 34 := by simp [entA, bytesV_size, hk]
theorem entA_one (k : List Nat) (b c : ByteArray) : (entA k b c).all (·.oneCell') = true := by
  unfold entA
  rw [Array.all_append, bytesV_one]
  simp [Value.oneCell']
theorem zEnt_one : zEnt.all (·.oneCell') = true := by kernel_rfl
theorem entI {X : Array Value} (h : X.size = 34) : (Tryd.prog.info? 86).map (·.size) = some X.size := by rw [h]; kernel_rfl
set_option maxRecDepth 100000 in
set_option maxHeartbeats 400000 in
theorem gsign_err (A : Nat → Addr) (w : World) (b k : Nat) (id dom : ByteArray) (vm : Value)
    (HR : Calls Tryd.prog 33 #[.pointer (some ⟨b, 0, none⟩), .string id, .string dom, vm] w fun e w' => e = .returned (.tuple #[.agg zEnt, .slice none 0 0, errV A k]) ∧ w.grownBy w' none) :
    Calls Tryd.prog 19 #[.pointer (some ⟨b, 0, none⟩), .string id, .string dom, vm] w fun e w' => e = .returned (.tuple #[.slice none 0 0, errV A k]) ∧ w.grownBy w' none := by
  obtain ⟨Z, hZ⟩ : ∃ Z, Z = zEnt := ⟨_, rfl⟩
  have hz := zEnt_at
  rw [← hZ] at hz HR
  have HZi : Hid ((Tryd.prog.info? 86).map (·.size) = some Z.size) := Lib.hid (by rw [hZ]; exact entI rfl)
  have HZo : Hid (Z.all (·.oneCell') = true) := Lib.hid (by rw [hZ]; exact zEnt_one)
  have HR := Lib.hid HR
  clear hZ
  go_enter Tryd.func19, Tryd.ntmps19
  go_wp2_with (first
    | (go_at_call 33; refine HR.out.mono ?_; rintro e w2 ⟨rfl, hg2⟩; have G2 := Lib.hid hg2; clear hg2)
    | (refine wpList_store_row (by rfl) 86 (.tmp 10) (.tmp 19) (by rfl) w2.heap.size Z (by rfl) (by rfl) _ _ (alloc_at w2 _) HZi.out rfl HZo.out ?_; have G3 : Hid (w.grownBy ((w2.alloc (.cells Z 86)).setRow w2.heap.size Z) none) := Lib.hid (grown_setRow (grown_alloc G2.out _) G2.out.size _)))
  go_returns
  exact ⟨rfl, G3.out⟩
set_option maxRecDepth 100000 in
set_option maxHeartbeats 1000000 in
/-- Where there is a book. -/
theorem gsign_some (w : World) (b gm : Nat) (ov : Value) (s : Rg) (D : Array Value) (k : List Nat) (id dom : ByteArray) (va : Option Addr) (vc : Nat) (m : List Nat) (hs : GoodG s) (hm : MapL w gm (s.bk.map (bookP s))) (hb : w.heap[b]? = some (.cells #[ov, .map (some gm)] 83 (0, 0)))
    (hgt : s.get id = some k) (h2 : dom.size ≤ 1000) (h3 : m.length ≤ 100000)
    (HR : Calls Tryd.prog 33 #[.pointer (some ⟨b, 0, none⟩), .string id, .string dom, .slice va m.length vc] w fun e w' => w.grownBy w' none ∧ ∃ g, e = .returned (.tuple #[.agg (entA k dom (strOf m)), .slice (some ⟨g, 0, none⟩) 32 32, .nilIface]) ∧ w.heap.size ≤ g ∧ w'.heap[g]? = some (.cells D 64 (0, 0))) :
    Calls Tryd.prog 19 #[.pointer (some ⟨b, 0, none⟩), .string id, .string dom, .slice va m.length vc] w fun e w' => ∃ g, e = .returned (.tuple #[.slice (some ⟨g, 0, none⟩) 32 32, .nilIface]) ∧ w.heap.size ≤ g ∧ w'.heap[g]? = some (.cells D 64 (0, 0)) ∧ TurnG w w' b (some gm) gm ((s.sign (id, dom, strOf m)).bk.map (bookP s)) ∧ (b ≠ gm → w'.heap[b]? = w.heap[b]?) := by
  have HBB := Lib.hid hb
  obtain ⟨M, hM⟩ : ∃ M, M = strOf m := ⟨_, rfl⟩
  have hMs : M.size ≤ 100000 := by rw [hM, strOf_size]; exact h3
  obtain ⟨X, hX⟩ : ∃ X, X = entA k dom M := ⟨_, rfl⟩
  have hX34 : X.size = 34 := by rw [hX]; exact entA_size (hs.got hgt).2.1 _ _
  have HXi : Hid ((Tryd.prog.info? 86).map (·.size) = some X.size) := Lib.hid (entI hX34)
  have HXo : Hid (X.all (·.oneCell') = true) := Lib.hid (by rw [hX]; exact entA_one _ _ _)
  obtain ⟨Z, hZ⟩ : ∃ Z, Z = zEnt := ⟨_, rfl⟩
  have hz := zEnt_at
  rw [← hZ] at hz
  have HZX : Hid (Z.size = X.size) := Lib.hid (by rw [hX34, hZ]; rfl)
  have HXl : Hid ((Tryd.prog.info? 86).map (·.size) = some X.toList.length) := Lib.hid (by rw [Array.length_toList]; exact HXi.out)
  rw [← hM, ← hX] at HR
  have HR := Lib.hid HR
  obtain ⟨es', cl', hu, hes⟩ := bk_put hs hm id dom M k hgt h2 hMs
  have hu : ∀ W : World, W.heap[gm]? = w.heap[gm]? → (Instr.mapUpdate 81 (.map (some gm)) (.agg X) (.bool true)).run Tryd.prog W = .ok () (setBlock W gm (.map es' cl')) := by rw [hX]; exact hu
  have HU := Lib.hid hu
  have HGL : Hid (gm < w.heap.size) := Lib.hid hm.lt
  rw [← hM, ← hes]
  clear hb hM hMs hu hes hm hs h2 h3 hX hX34 hZ hgt
  generalize m.length = ml at *
  go_enter Tryd.func19, Tryd.ntmps19
  go_wp2_with (first
    | (go_at_call 33; refine HR.out.mono ?_; rintro e w2 ⟨hg2, g, rfl, hgg, hgd⟩; have G2 := Lib.hid hg2; have GG := Lib.hid hgg; have GD := Lib.hid hgd; clear hg2 hgg hgd)
    | (refine wpList_store_row (by rfl) 86 (.tmp 10) (.tmp 19) (by rfl) w2.heap.size X (by rfl) (by rfl) _ _ (alloc_at w2 _) HXi.out HZX.out HXo.out ?_; obtain ⟨w3, hw3⟩ : ∃ w3, w3 = (w2.alloc (.cells Z 86)).setRow w2.heap.size X := ⟨_, rfl⟩; rw [← hw3]; have g3 : w2.grownBy w3 none := (by rw [hw3]; exact grown_setRow (World.grownBy_alloc _ _ _) (Nat.le_refl _) _); have x3 : Hid (w3.heap[w2.heap.size]? = some (.cells X 86 (0, 0))) := Lib.hid (by rw [hw3]; exact setRow_heap _ _ _ _ _ _ (alloc_at w2 _)); have G3 := Lib.hid (grown_trans G2.out g3); have D3 := Lib.hid ((g3.block _ (blk_lt GD.out) (by simp)).trans GD.out); have c1 : w3.cell? ⟨b, 1, none⟩ = some (.map (some gm)) := (by rw [World.cell?_of_block (G3.out.block b (blk_lt HBB.out) (by simp))]; exact cell_blk HBB.out 1 rfl); have hq := run_eql_map_nil (P := Tryd.prog) w3 (some gm) mapET; clear g3 hw3))
  refine wp_region_quiet_tail (fun w' => ∃ n, w' = w3.drewN n) 5 (by kernel_rfl) (by kernel_rfl) ⟨1, rfl⟩ ?_
  simp only [List.take_succ_cons, List.take_zero, List.drop_succ_cons, List.drop_zero]
  iterate 4 (go_big_quiet_step (fail))
  refine wpQuiet_load_mid (by rfl) 86 (.tmp 10) (by rfl) w2.heap.size 0 (by rfl) X.toList _ (fun w' hw' => by
    obtain ⟨n, rfl⟩ := hw'
    exact range_all (w := w3) x3.out) Tryd.underlying86 rfl HXl.out ?_
  refine wpQuiet_nil ?_
  rintro _ ⟨n3, rfl⟩
  simp only [Act.put, List.setIfInBounds_toArray, List.set_cons_succ, List.set_cons_zero]
  refine wpList_upd (by rfl) (.tmp 37) (.tmp 38) (.const (.bool true)) (by rfl) _ _ _ (by rfl) (by rfl) (by rfl) (HU.out (w3.drewN n3) (G3.out.block gm HGL.out (by simp))) ?_
  go_wp2
  go_returns
  have hbl := blk_lt HBB.out
  refine ⟨_, rfl, GG.out, ?_, ⟨upto_setB (Upto.of_grown _ G3.out) (.inl rfl) _, mapL_set (Nat.lt_of_lt_of_le HGL.out G3.out.size) _ _, .inl rfl⟩, fun hne => ((setB_grown (w := w3.drewN n3) (b := gm) _).block b (Nat.lt_of_lt_of_le hbl G3.out.size) (fun e => hne (Option.some.inj e))).trans (G3.out.block b hbl (by simp))⟩
  refine ((setB_grown (w := w3.drewN n3) (b := gm) _).block g (blk_lt D3.out) (fun e => ?_)).trans D3.out
  have e := Option.some.inj e
  have := GG.out
  have := HGL.out
  omega
end Go.Proofs.YtgdnndapmcjoeaaDoor
namespace Go.Proofs.YtgdnndapmcjoeaaDoor
open Go.RowKit Go.Maps
open Go.ChangeMaps (setBlock)
set_option linter.unusedVariables false
/-- A first map of a ring is made. -/
theorem made_map {w : World} {b : Nat} {ov : Value} (hb : w.heap[b]? = some (.cells #[ov, .map none] 83 (0, 0))) :
    ∃ W1, W1 = (w.alloc (.map #[] 0)).setCell ⟨b, 1, none⟩ (.map (some w.heap.size)) ∧ W1.heap.size = w.heap.size + 1 ∧ MapL W1 w.heap.size [] ∧ W1.heap[b]? = some (.cells #[ov, .map (some w.heap.size)] 83 (0, 0)) ∧ Upto (fun k => k = b) w W1 := by
  have hbl := blk_lt hb
  refine ⟨_, rfl, by rw [setCell_size, alloc_size], mapL_of (mapL_new w) (Below.heap_setCell _ _ _ _ (by show ¬ w.heap.size = b; omega)), ?_, rfl, rfl, rfl, by rw [setCell_size, alloc_size]; omega, fun k hk hn => ?_⟩
  · have := setCell_heap (i := 1) (alloc_keep (o := .map #[] 0) hb) (.map (some w.heap.size))
    simpa using this
  · exact (Below.heap_setCell _ _ _ _ hn).trans (alloc_old _ _ _ hk)
set_option maxRecDepth 100000 in
set_option maxHeartbeats 1000000 in
/-- Where there is no book. -/
theorem gsign_none (w : World) (b : Nat) (ov : Value) (s : Rg) (D : Array Value) (k : List Nat) (id dom : ByteArray) (va : Option Addr) (vc : Nat) (m : List Nat) (hs : GoodG s) (he : s.bk = []) (hb : w.heap[b]? = some (.cells #[ov, .map none] 83 (0, 0)))
    (hgt : s.get id = some k) (h2 : dom.size ≤ 1000) (h3 : m.length ≤ 100000)
    (HR : Calls Tryd.prog 33 #[.pointer (some ⟨b, 0, none⟩), .string id, .string dom, .slice va m.length vc] w fun e w' => w.grownBy w' none ∧ ∃ g, e = .returned (.tuple #[.agg (entA k dom (strOf m)), .slice (some ⟨g, 0, none⟩) 32 32, .nilIface]) ∧ w.heap.size ≤ g ∧ w'.heap[g]? = some (.cells D 64 (0, 0))) :
    Calls Tryd.prog 19 #[.pointer (some ⟨b, 0, none⟩), .string id, .string dom, .slice va m.length vc] w fun e w' => ∃ g gm, e = .returned (.tuple #[.slice (some ⟨g, 0, none⟩) 32 32, .nilIface]) ∧ w.heap.size ≤ g ∧ w'.heap[g]? = some (.cells D 64 (0, 0)) ∧ TurnG w w' b none gm ((s.sign (id, dom, strOf m)).bk.map (bookP s)) ∧ w'.heap[b]? = some (.cells #[ov, .map (some gm)] 83 (0, 0)) := by
  have HBB := Lib.hid hb
  obtain ⟨M, hM⟩ : ∃ M, M = strOf m := ⟨_, rfl⟩
  have hMs : M.size ≤ 100000 := by rw [hM, strOf_size]; exact h3
  obtain ⟨X, hX⟩ : ∃ X, X = entA k dom M := ⟨_, rfl⟩
  have hX34 : X.size = 34 := by rw [hX]; exact entA_size (hs.got hgt).2.1 _ _
  have HXi : Hid ((Tryd.prog.info? 86).map (·.size) = some X.size) := Lib.hid (entI hX34)
  have HXo : Hid (X.all (·.oneCell') = true) := Lib.hid (by rw [hX]; exact entA_one _ _ _)
  obtain ⟨Z, hZ⟩ : ∃ Z, Z = zEnt := ⟨_, rfl⟩
  have hz := zEnt_at
  rw [← hZ] at hz
  have HZX : Hid (Z.size = X.size) := Lib.hid (by rw [hX34, hZ]; rfl)
  have HXl : Hid ((Tryd.prog.info? 86).map (·.size) = some X.toList.length) := Lib.hid (by rw [Array.length_toList]; exact HXi.out)
  rw [← hM, ← hX] at HR
  have HR := Lib.hid HR
  obtain ⟨L, hL⟩ : ∃ L, L = (s.sign (id, dom, M)).bk.map (bookP s) := ⟨_, rfl⟩
  have HU : Hid (∀ (W : World) (g : Nat), MapL W g [] → ∃ es' clock', (∀ Y : World, Y.heap[g]? = W.heap[g]? → (Instr.mapUpdate 81 (.map (some g)) (.agg X) (.bool true)).run Tryd.prog Y = .ok () (setBlock Y g (.map es' clock'))) ∧ es'.toList.map (fun x => (x.key, x.val)) = L) := Lib.hid (fun W g hm => by
    rw [hL, hX]
    exact bk_put hs (w := W) (g := g) (by rw [he]; exact hm) id dom M k hgt h2 hMs)
  rw [← hM, ← hL]
  have hmm := @run_makeMap Tryd.prog
  clear hb hM hMs hL he hs h2 h3 hX hX34 hZ hgt
  generalize m.length = ml at *
  go_enter Tryd.func19, Tryd.ntmps19
  go_wp2_with (first
    | (go_at_call 33; refine HR.out.mono ?_; rintro e w1 ⟨hg2, g, rfl, hgg, hgd⟩; have G1 := Lib.hid hg2; have GG := Lib.hid hgg; have GD1 := Lib.hid hgd; clear hg2 hgg hgd)
    | (refine wpList_store_row (by rfl) 86 (.tmp 10) (.tmp 19) (by rfl) w1.heap.size X (by rfl) (by rfl) _ _ (alloc_at w1 _) HXi.out HZX.out HXo.out ?_; obtain ⟨w2, hw2⟩ : ∃ w2, w2 = (w1.alloc (.cells Z 86)).setRow w1.heap.size X := ⟨_, rfl⟩; rw [← hw2]; have g2 : w1.grownBy w2 none := (by rw [hw2]; exact grown_setRow (World.grownBy_alloc _ _ _) (Nat.le_refl _) _); have x2 : Hid (w2.heap[w1.heap.size]? = some (.cells X 86 (0, 0))) := Lib.hid (by rw [hw2]; exact setRow_heap _ _ _ _ _ _ (alloc_at w1 _)); have G2 := Lib.hid (grown_trans G1.out g2); have GD := Lib.hid ((g2.block _ (blk_lt GD1.out) (by simp)).trans GD1.out); have hb2 := (G2.out.block b (blk_lt HBB.out) (by simp)).trans HBB.out; have HB2 := Lib.hid hb2; have c1 := cell_blk hb2 1 rfl; have hq := run_eql_map_nil (P := Tryd.prog) w2 none mapET; have f1 : (w2.alloc (.map #[] 0)).frozen? ⟨b, 1, none⟩ = false := free_blk (alloc_keep hb2) 1; have c1' : (w2.alloc (.map #[] 0)).cell? ⟨b, 1, none⟩ = some (.map none) := cell_blk (alloc_keep hb2) 1 rfl; have x2lt := Lib.hid (blk_lt x2.out); have HN1 : Hid (w1.heap.size ≠ b) := Lib.hid (by have := blk_lt HBB.out; have := G1.out.size; omega); clear g2 hw2 hb2))
  obtain ⟨W1, hW1, s1, m1, b1, u1⟩ := made_map HB2.out
  rw [← hW1]
  have U1 : Upto (fun j => j = b) w W1 := (Upto.of_grown (fun j => j = b) G2.out).trans u1 (fun _ _ h => h)
  obtain ⟨es', cl', hu, hes⟩ := HU.out W1 w2.heap.size m1
  have HU2 := Lib.hid hu
  have c2 := cell_blk b1 1 rfl
  have HB1 := Lib.hid b1
  have HU1 := Lib.hid U1
  have HS1 := Lib.hid s1
  have Hu1 := Lib.hid u1
  have HES := Lib.hid hes
  have x1 : Hid (W1.heap[w1.heap.size]? = some (.cells X 86 (0, 0))) := Lib.hid ((u1.block _ x2lt.out HN1.out).trans x2.out)
  clear hW1 s1 m1 b1 u1 U1 hu hes f1 c1' c1
  refine wp_region_quiet_tail (fun w' => ∃ n, w' = W1.drewN n) 5 (by kernel_rfl) (by kernel_rfl) ⟨1, rfl⟩ ?_
  simp only [List.take_succ_cons, List.take_zero, List.drop_succ_cons, List.drop_zero]
  iterate 4 (go_big_quiet_step (fail))
  refine wpQuiet_load_mid (by rfl) 86 (.tmp 10) (by rfl) w1.heap.size 0 (by rfl) X.toList _ (fun w' hw' => by
    obtain ⟨n, rfl⟩ := hw'
    exact range_all (w := W1) x1.out) Tryd.underlying86 rfl HXl.out ?_
  refine wpQuiet_nil ?_
  rintro _ ⟨n3, rfl⟩
  simp only [Act.put, List.setIfInBounds_toArray, List.set_cons_succ, List.set_cons_zero]
  refine wpList_upd (by rfl) (.tmp 37) (.tmp 38) (.const (.bool true)) (by rfl) _ _ _ (by rfl) (by rfl) (by rfl) (HU2.out (W1.drewN n3) rfl) ?_
  go_wp2
  go_returns
  have hs2 := G2.out.size
  have hgm : w2.heap.size < W1.heap.size := by rw [HS1.out]; omega
  have hne : ∀ k, k < w2.heap.size → (setBlock (W1.drewN n3) w2.heap.size (.map es' cl')).heap[k]? = W1.heap[k]? := fun k hk => (setB_grown (w := W1.drewN n3) (b := w2.heap.size) _).block k (by show k < W1.heap.size; omega) (fun e => by have := Option.some.inj e; omega)
  have hbl := blk_lt HBB.out
  refine ⟨_, _, rfl, GG.out, ?_, ⟨upto_setB (HU1.out.mono (fun k _ hk => .inl hk)) (.inr hs2) _, by rw [← HES.out]; exact mapL_set hgm _ _, .inr ⟨rfl, hs2⟩⟩, (hne b (by omega)).trans HB1.out⟩
  refine (hne g (blk_lt GD.out)).trans ((Hu1.out.block g (blk_lt GD.out) (fun e => ?_)).trans GD.out)
  have := GG.out
  omega
end Go.Proofs.YtgdnndapmcjoeaaDoor
