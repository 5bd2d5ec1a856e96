import Derived.Test.YtgdnndapmcjoeaaDoorKe31
namespace Go.Proofs.YtgdnndapmcjoeaaDoor
open Go.RowKit Go.Maps
open Go.ChangeMaps (setBlock)
set_option linter.unusedVariables false
/-- What the book has of a message, as it lies. -/
def entA (k : List Nat) (b c : ByteArray) : Array Value := bytesV k ++ #[.string b, .string c]
theorem entA_size {k : List Nat} (hk : k.length = 32) (b c : ByteArray) : (entA k b c).size = 34 := by simp [entA, bytesV_size, hk]
theorem entA_one (k : List Nat) (b c : ByteArray) : (entA k b c).all (·.oneCell') = true := by
  unfold entA
  rw [Array.all_append, bytesV_one]
  simp [Value.oneCell']
theorem zEnt_one : zEnt.all (·.oneCell') = true := by kernel_rfl
theorem entI {X : Array Value} (h : X.size = 34) : (Tryd.prog.info? 86).map (·.size) = some X.size := by rw [h]; kernel_rfl
set_option maxRecDepth 100000 in
set_option maxHeartbeats 400000 in
theorem gsign_err (A : Nat → Addr) (w : World) (b k : Nat) (id dom : ByteArray) (vm : Value)
    (HR : Calls Tryd.prog 33 #[.pointer (some ⟨b, 0, none⟩), .string id, .string dom, vm] w fun e w' => e = .returned (.tuple #[.agg zEnt, .slice none 0 0, errV A k]) ∧ w.grownBy w' none) :
    Calls Tryd.prog 19 #[.pointer (some ⟨b, 0, none⟩), .string id, .string dom, vm] w fun e w' => e = .returned (.tuple #[.slice none 0 0, errV A k]) ∧ w.grownBy w' none := by
  obtain ⟨Z, hZ⟩ : ∃ Z, Z = zEnt := ⟨_, rfl⟩
  have hz := zEnt_at
  rw [← hZ] at hz HR
  have HZi : Hid ((Tryd.prog.info? 86).map (·.size) = some Z.size) := Lib.hid (by rw [hZ]; exact entI rfl)
  have HZo : Hid (Z.all (·.oneCell') = true) := Lib.hid (by rw [hZ]; exact zEnt_one)
  have HR := Lib.hid HR
  clear hZ
  go_enter Tryd.func19, Tryd.ntmps19
  go_wp2_with (first
    | (go_at_call 33; refine HR.out.mono ?_; rintro e w2 ⟨rfl, hg2⟩; have G2 := Lib.hid hg2; clear hg2)
    | (refine wpList_store_row (by rfl) 86 (.tmp 10) (.tmp 19) (by rfl) w2.heap.size Z (by rfl) (by rfl) _ _ (alloc_at w2 _) HZi.out rfl HZo.out ?_; have G3 : Hid (w.grownBy ((w2.alloc (.cells Z 86)).setRow w2.heap.size Z) none) := Lib.hid (grown_setRow (grown_alloc G2.out _) G2.out.size _)))
  go_returns
  exact ⟨rfl, G3.out⟩
set_option maxRecDepth 100000 in
set_option maxHeartbeats 1000000 in
/-- Where there is a book. -/
theorem gsign_some (w : World) (b gm : Nat) (ov : Value) (s : Rg) (D : Array Value) (k : List Nat) (id dom : ByteArray) (va : Option Addr) (vc : Nat) (m : List Nat) (hs : GoodG s) (hm : MapL w gm (s.bk.map (bookP s))) (hb : w.heap[b]? = some (.cells #[ov, .map (some gm)] 83 (0, 0)))
    (hgt : s.get id = some k) (h2 : dom.size ≤ 1000) (h3 : m.length ≤ 100000)
    (HR : Calls Tryd.prog 33 #[.pointer (some ⟨b, 0, none⟩), .string id, .string dom, .slice va m.length vc] w fun e w' => w.grownBy w' none ∧ ∃ g, e = .returned (.tuple #[.agg (entA k dom (strOf m)), .slice (some ⟨g, 0, none⟩) 32 32, .nilIface]) ∧ w.heap.size ≤ g ∧ w'.heap[g]? = some (.cells D 64 (0, 0))) :
    Calls Tryd.prog 19 #[.pointer (some ⟨b, 0, none⟩), .string id, .string dom, .slice va m.length vc] w fun e w' => ∃ g, e = .returned (.tuple #[.slice (some ⟨g, 0, none⟩) 32 32, .nilIface]) ∧ w.heap.size ≤ g ∧ w'.heap[g]? = some (.cells D 64 (0, 0)) ∧ TurnG w w' b (some gm) gm ((s.sign (id, dom, strOf m)).bk.map (bookP s)) ∧ (b ≠ gm → w'.heap[b]? = w.heap[b]?) := by
  have HBB := Lib.hid hb
  obtain ⟨M, hM⟩ : ∃ M, M = strOf m := ⟨_, rfl⟩
  have hMs : M.size ≤ 100000 := by rw [hM, strOf_size]; exact h3
  obtain ⟨X, hX⟩ : ∃ X, X = entA k dom M := ⟨_, rfl⟩
  have hX34 : X.size = 34 := by rw [hX]; exact entA_size (hs.got hgt).2.1 _ _
  have HXi : Hid ((Tryd.prog.info? 86).map (·.size) = some X.size) := Lib.hid (entI hX34)
  have HXo : Hid (X.all (·.oneCell') = true) := Lib.hid (by rw [hX]; exact entA_one _ _ _)
  obtain ⟨Z, hZ⟩ : ∃ Z, Z = zEnt := ⟨_, rfl⟩
  have hz := zEnt_at
  rw [← hZ] at hz
  have HZX : Hid (Z.size = X.size) := Lib.hid (by rw [hX34, hZ]; rfl)
  have HXl : Hid ((Tryd.prog.info? 86).map (·.size) = some X.toList.length) := Lib.hid (by rw [Array.length_toList]; exact HXi.out)
  rw [← hM, ← hX] at HR
  have HR := Lib.hid HR
  obtain ⟨es', cl', hu, hes⟩ := bk_put hs hm id dom M k hgt h2 hMs
  have hu : ∀ W : World, W.heap[gm]? = w.heap[gm]? → (Instr.mapUpdate 81 (.map (some gm)) (.agg X) (.bool true)).run Tryd.prog W = .ok () (setBlock W gm (.map es' cl')) := by rw [hX]; exact hu
  have HU := Lib.hid hu
  have HGL : Hid (gm < w.heap.size) := Lib.hid hm.lt
  rw [← hM, ← hes]
  clear hb hM hMs hu hes hm hs h2 h3 hX hX34 hZ hgt
  generalize m.length = ml at *
  go_enter Tryd.func19, Tryd.ntmps19
  go_wp2_with (first
    | (go_at_call 33; refine HR.out.mono ?_; rintro e w2 ⟨hg2, g, rfl, hgg, hgd⟩; have G2 := Lib.hid hg2; have GG := Lib.hid hgg; have GD := Lib.hid hgd; clear hg2 hgg hgd)
    | (refine wpList_store_row (by rfl) 86 (.tmp 10) (.tmp 19) (by rfl) w2.heap.size X (by rfl) (by rfl) _ _ (alloc_at w2 _) HXi.out HZX.out HXo.out ?_; obtain ⟨w3, hw3⟩ : ∃ w3, w3 = (w2.alloc (.cells Z 86)).setRow w2.heap.size X := ⟨_, rfl⟩; rw [← hw3]; have g3 : w2.grownBy w3 none := (by rw [hw3]; exact grown_setRow (World.grownBy_alloc _ _ _) (Nat.le_refl _) _); have x3 : Hid (w3.heap[w2.heap.size]? = some (.cells X 86 (0, 0))) := Lib.hid (by rw [hw3]; exact setRow_heap _ _ _ _ _ _ (alloc_at w2 _)); have G3 := Lib.hid (grown_trans G2.out g3); have D3 := Lib.hid ((g3.block _ (blk_lt GD.out) (by simp)).trans GD.out); have c1 : w3.cell? ⟨b, 1, none⟩ = some (.map (some gm)) := (by rw [World.cell?_of_block (G3.out.block b (blk_lt HBB.out) (by simp))]; exact cell_blk HBB.out 1 rfl); have hq := run_eql_map_nil (P := Tryd.prog) w3 (some gm) mapET; clear g3 hw3))
  refine wp_region_quiet_tail (fun w' => ∃ n, w' = w3.drewN n) 5 (by kernel_rfl) (by kernel_rfl) ⟨1, rfl⟩ ?_
  simp only [List.take_succ_cons, List.take_zero, List.drop_succ_cons, List.drop_zero]
  iterate 4 (go_big_quiet_step (fail))
  refine wpQuiet_load_mid (by rfl) 86 (.tmp 10) (by rfl) w2.heap.size 0 (by rfl) X.toList _ (fun w' hw' => by
    obtain ⟨n, rfl⟩ := hw'
    exact range_all (w := w3) x3.out) Tryd.underlying86 rfl HXl.out ?_
  refine wpQuiet_nil ?_
  rintro _ ⟨n3, rfl⟩
  simp only [Act.put, List.setIfInBounds_toArray, List.set_cons_succ, List.set_cons_zero]
  refine wpList_upd (by rfl) (.tmp 37) (.tmp 38) (.const (.bool true)) (by rfl) _ _ _ (by rfl) (by rfl) (by rfl) (HU.out (w3.drewN n3) (G3.out.block gm HGL.out (by simp))) ?_
  go_wp2
  go_returns
  have hbl := blk_lt HBB.out
  refine ⟨_, rfl, GG.out, ?_, ⟨upto_setB (Upto.of_grown _ G3.out) (.inl rfl) _, mapL_set (Nat.lt_of_lt_of_le HGL.out G3.out.size) _ _, .inl rfl⟩, fun hne => ((setB_grown (w := w3.drewN n3) (b := gm) _).block b (Nat.lt_of_lt_of_le hbl G3.out.size) (fun e => hne (Option.some.inj e))).trans (G3.out.block b hbl (by simp))⟩
  refine ((setB_grown (w := w3.drewN n3) (b := gm) _).block g (blk_lt D3.out) (fun e => ?_)).trans D3.out
  have e := Option.some.inj e
  have := GG.out
  have := HGL.out
  omega
end Go.Proofs.YtgdnndapmcjoeaaDoor
namespace Go.Proofs.YtgdnndapmcjoeaaDoor
open Go.RowKit Go.Maps
open Go.ChangeMaps (setBlock)
set_option linter.unusedVariables false
/-- A first map of a ring is made. -/
theorem made_map {w : World} {b : Nat} {ov : Value} (hb : w.heap[b]? = some (.cells #[ov, .map none] 83 (0, 0))) :
    ∃ W1, W1 = (w.alloc (.map #[] 0)).setCell ⟨b, 1, none⟩ (.map (some w.heap.size)) ∧ W1.heap.size = w.heap.size + 1 ∧ MapL W1 w.heap.size [] ∧ W1.heap[b]? = some (.cells #[ov, .map (some w.heap.size)] 83 (0, 0)) ∧ Upto (fun k => k = b) w W1 := by
  have hbl := blk_lt hb
  refine ⟨_, rfl, by rw [setCell_size, alloc_size], mapL_of (mapL_new w) (Below.heap_setCell _ _ _ _ (by show ¬ w.heap.size = b; omega)), ?_, rfl, rfl, rfl, by rw [setCell_size, alloc_size]; omega, fun k hk hn => ?_⟩
  · have := setCell_heap (i := 1) (alloc_keep (o := .map #[] 0) hb) (.map (some w.heap.size))
    simpa using this
  · exact (Below.heap_setCell _ _ _ _ hn).trans (alloc_old _ _ _ hk)
set_option maxRecDepth 100000 in
set_option maxHeartbeats 1000000 in
/-- Where there is no book. -/
theorem gsign_none (w : World) (b : Nat) (ov : Value) (s : Rg) (D : Array Value) (k : List Nat) (id dom : ByteArray) (va : Option Addr) (vc : Nat) (m : List Nat) (hs : GoodG s) (he : s.bk = []) (hb : w.heap[b]? = some (.cells #[ov, .map none] 83 (0, 0)))
    (hgt : s.get id = some k) (h2 : dom.size ≤ 1000) (h3 : m.length ≤ 100000)
    (HR : Calls Tryd.prog 33 #[.pointer (some ⟨b, 0, none⟩), .string id, .string dom, .slice va m.length vc] w fun e w' => w.grownBy w' none ∧ ∃ g, e = .returned (.tuple #[.agg (entA k dom (strOf m)), .slice (some ⟨g, 0, none⟩) 32 32, .nilIface]) ∧ w.heap.size ≤ g ∧ w'.heap[g]? = some (.cells D 64 (0, 0))) :
    Calls Tryd.prog 19 #[.pointer (some ⟨b, 0, none⟩), .string id, .string dom, .slice va m.length vc] w fun e w' => ∃ g gm, e = .returned (.tuple #[.slice (some ⟨g, 0, none⟩) 32 32, .nilIface]) ∧ w.heap.size ≤ g ∧ w'.heap[g]? = some (.cells D 64 (0, 0)) ∧ TurnG w w' b none gm ((s.sign (id, dom, strOf m)).bk.map (bookP s)) ∧ w'.heap[b]? = some (.cells #[ov, .map (some gm)] 83 (0, 0)) := by
  have HBB := Lib.hid hb
  obtain ⟨M, hM⟩ : ∃ M, M = strOf m := ⟨_, rfl⟩
  have hMs : M.size ≤ 100000 := by rw [hM, strOf_size]; exact h3
  obtain ⟨X, hX⟩ : ∃ X, X = entA k dom M := ⟨_, rfl⟩
  have hX34 : X.size = 34 := by rw [hX]; exact entA_size (hs.got hgt).2.1 _ _
  have HXi : Hid ((Tryd.prog.info? 86).map (·.size) = some X.size) := Lib.hid (entI hX34)
  have HXo : Hid (X.all (·.oneCell') = true) := Lib.hid (by rw [hX]; exact entA_one _ _ _)
  obtain ⟨Z, hZ⟩ : ∃ Z, Z = zEnt := ⟨_, rfl⟩
  have hz := zEnt_at
  rw [← hZ] at hz
  have HZX : Hid (Z.size = X.size) := Lib.hid (by rw [hX34, hZ]; rfl)
  have HXl : Hid ((Tryd.prog.info? 86).map (·.size) = some X.toList.length) := Lib.hid (by rw [Array.length_toList]; exact HXi.out)
  rw [← hM, ← hX] at HR
  have HR := Lib.hid HR
  obtain ⟨L, hL⟩ : ∃ L, L = (s.sign (id, dom, M)).bk.map (bookP s) := ⟨_, rfl⟩
  have HU : Hid (∀ (W : World) (g : Nat), MapL W g [] → ∃ es' clock', (∀ Y : World, Y.heap[g]? = W.heap[g]? → (Instr.mapUpdate 81 (.map (some g)) (.agg X) (.bool true)).run Tryd.prog Y = .ok () (setBlock Y g (.map es' clock'))) ∧ es'.toList.map (fun x => (x.key, x.val)) = L) := Lib.hid (fun W g hm => by
    rw [hL, hX]
    exact bk_put hs (w := W) (g := g) (by rw [he]; exact hm) id dom M k hgt h2 hMs)
  rw [← hM, ← hL]
  have hmm := @run_makeMap Tryd.prog
  clear hb hM hMs hL he hs h2 h3 hX hX34 hZ hgt
  generalize m.length = ml at *
  go_enter Tryd.func19, Tryd.ntmps19
  go_wp2_with (first
    | (go_at_call 33; refine HR.out.mono ?_; rintro e w1 ⟨hg2, g, rfl, hgg, hgd⟩; have G1 := Lib.hid hg2; have GG := Lib.hid hgg; have GD1 := Lib.hid hgd; clear hg2 hgg hgd)
    | (refine wpList_store_row (by rfl) 86 (.tmp 10) (.tmp 19) (by rfl) w1.heap.size X (by rfl) (by rfl) _ _ (alloc_at w1 _) HXi.out HZX.out HXo.out ?_; obtain ⟨w2, hw2⟩ : ∃ w2, w2 = (w1.alloc (.cells Z 86)).setRow w1.heap.size X := ⟨_, rfl⟩; rw [← hw2]; have g2 : w1.grownBy w2 none := (by rw [hw2]; exact grown_setRow (World.grownBy_alloc _ _ _) (Nat.le_refl _) _); have x2 : Hid (w2.heap[w1.heap.size]? = some (.cells X 86 (0, 0))) := Lib.hid (by rw [hw2]; exact setRow_heap _ _ _ _ _ _ (alloc_at w1 _)); have G2 := Lib.hid (grown_trans G1.out g2); have GD := Lib.hid ((g2.block _ (blk_lt GD1.out) (by simp)).trans GD1.out); have hb2 := (G2.out.block b (blk_lt HBB.out) (by simp)).trans HBB.out; have HB2 := Lib.hid hb2; have c1 := cell_blk hb2 1 rfl; have hq := run_eql_map_nil (P := Tryd.prog) w2 none mapET; have f1 : (w2.alloc (.map #[] 0)).frozen? ⟨b, 1, none⟩ = false := free_blk (alloc_keep hb2) 1; have c1' : (w2.alloc (.map #[] 0)).cell? ⟨b, 1, none⟩ = some (.map none) := cell_blk (alloc_keep hb2) 1 rfl; have x2lt := Lib.hid (blk_lt x2.out); have HN1 : Hid (w1.heap.size ≠ b) := Lib.hid (by have := blk_lt HBB.out; have := G1.out.size; omega); clear g2 hw2 hb2))
  obtain ⟨W1, hW1, s1, m1, b1, u1⟩ := made_map HB2.out
  rw [← hW1]
  have U1 : Upto (fun j => j = b) w W1 := (Upto.of_grown (fun j => j = b) G2.out).trans u1 (fun _ _ h => h)
  obtain ⟨es', cl', hu, hes⟩ := HU.out W1 w2.heap.size m1
  have HU2 := Lib.hid hu
  have c2 := cell_blk b1 1 rfl
  have HB1 := Lib.hid b1
  have HU1 := Lib.hid U1
  have HS1 := Lib.hid s1
  have Hu1 := Lib.hid u1
  have HES := Lib.hid hes
  have x1 : Hid (W1.heap[w1.heap.size]? = some (.cells X 86 (0, 0))) := Lib.hid ((u1.block _ x2lt.out HN1.out).trans x2.out)
  clear hW1 s1 m1 b1 u1 U1 hu hes f1 c1' c1
  refine wp_region_quiet_tail (fun w' => ∃ n, w' = W1.drewN n) 5 (by kernel_rfl) (by kernel_rfl) ⟨1, rfl⟩ ?_
  simp only [List.take_succ_cons, List.take_zero, List.drop_succ_cons, List.drop_zero]
  iterate 4 (go_big_quiet_step (fail))
  refine wpQuiet_load_mid (by rfl) 86 (.tmp 10) (by rfl) w1.heap.size 0 (by rfl) X.toList _ (fun w' hw' => by
    obtain ⟨n, rfl⟩ := hw'
    exact range_all (w := W1) x1.out) Tryd.underlying86 rfl HXl.out ?_
  refine wpQuiet_nil ?_
  rintro _ ⟨n3, rfl⟩
  simp only [Act.put, List.setIfInBounds_toArray, List.set_cons_succ, List.set_cons_zero]
  refine wpList_upd (by rfl) (.tmp 37) (.tmp 38) (.const (.bool true)) (by rfl) _ _ _ (by rfl) (by rfl) (by rfl) (HU2.out (W1.drewN n3) rfl) ?_
  go_wp2
  go_returns
  have hs2 := G2.out.size
  have hgm : w2.heap.size < W1.heap.size := by rw [HS1.out]; omega
  have hne : ∀ k, k < w2.heap.size → (setBlock (W1.drewN n3) w2.heap.size (.map es' cl')).heap[k]? = W1.heap[k]? := fun k hk => (setB_grown (w := W1.drewN n3) (b := w2.heap.size) _).block k (by show k < W1.heap.size; omega) (fun e => by have := Option.some.inj e; omega)
  have hbl := blk_lt HBB.out
  refine ⟨_, _, rfl, GG.out, ?_, ⟨upto_setB (HU1.out.mono (fun k _ hk => .inl hk)) (.inr hs2) _, by rw [← HES.out]; exact mapL_set hgm _ _, .inr ⟨rfl, hs2⟩⟩, (hne b (by omega)).trans HB1.out⟩
  refine (hne g (blk_lt GD.out)).trans ((Hu1.out.block g (blk_lt GD.out) (fun e => ?_)).trans GD.out)
  have := GG.out
  omega
end Go.Proofs.YtgdnndapmcjoeaaDoor
namespace Go.Proofs.YtgdnndapmcjoeaaDoor
open Go.RowKit Go.Maps
open Go.ChangeMaps (setBlock)
set_option linter.unusedVariables false
/-- A whole row read, guarded. -/
theorem wpQuiet_load_midG {P : Program} {ops : Array Oper} {C : World → Prop} {Q : Act → Prop} {a : Act} {o : Oper} {rest : List Oper} (hw : Region.wanted o (yielded ops a.tmps) = true) (ty : TypeId) (x : Operand) (ho : o.op = .load ty x)
    (b off : Nat) (hx : a.eval x = .pointer (some ⟨b, off, none⟩)) (cs : List Value) (d : TypeDesc) (hC : ∀ w, C w → w.rangeAt b off cs)
    (hu : P.underlying ty = some d) (hd : d.isRow = true) (hi : (P.info? ty).map (·.size) = some cs.length)
    (h : wpQuiet P ops C Q rest (a.put o.dst (.agg cs.toArray))) : wpQuiet P ops C Q (o :: rest) a :=
  wpQuiet_step fun K hK => by
    rw [if_pos hw]
    refine ⟨_, fun w hw => ?_, hK _ h⟩
    unfold Oper.quietAt execOp
    simp only [ho, hx, Instr.loadAt, Instr.sureAddr, Sem.run_bind, Sem.run_pure, Result.andThen_ok, run_loadVar_mid w b off ty cs d (hC w hw) hu hd hi]
    exact ⟨rfl, rfl⟩
set_option maxRecDepth 100000 in
set_option maxHeartbeats 400000 in
theorem gver_err (A : Nat → Addr) (w : World) (b k : Nat) (id dom : ByteArray) (vm vs : Value)
    (HR : Calls Tryd.prog 33 #[.pointer (some ⟨b, 0, none⟩), .string id, .string dom, vm] w fun e w' => e = .returned (.tuple #[.agg zEnt, .slice none 0 0, errV A k]) ∧ w.grownBy w' none) :
    Calls Tryd.prog 21 #[.pointer (some ⟨b, 0, none⟩), .string id, .string dom, vm, vs] w fun e w' => e = .returned (errV A k) ∧ w.grownBy w' none := by
  obtain ⟨Z, hZ⟩ : ∃ Z, Z = zEnt := ⟨_, rfl⟩
  have hz := zEnt_at
  rw [← hZ] at hz HR
  have HZi : Hid ((Tryd.prog.info? 86).map (·.size) = some Z.size) := Lib.hid (by rw [hZ]; exact entI rfl)
  have HZo : Hid (Z.all (·.oneCell') = true) := Lib.hid (by rw [hZ]; exact zEnt_one)
  have HR := Lib.hid HR
  clear hZ
  go_enter Tryd.func21, Tryd.ntmps21
  go_wp2_with (first
    | (go_at_call 33; refine HR.out.mono ?_; rintro e w2 ⟨rfl, hg2⟩; have G2 := Lib.hid hg2; clear hg2)
    | (refine wpList_store_row (by rfl) 86 (.tmp 11) (.tmp 20) (by rfl) w2.heap.size Z (by rfl) (by rfl) _ _ (alloc_at w2 _) HZi.out rfl HZo.out ?_; have G3 : Hid (w.grownBy ((w2.alloc (.cells Z 86)).setRow w2.heap.size Z) none) := Lib.hid (grown_setRow (grown_alloc G2.out _) G2.out.size _)))
  go_ret
  exact ⟨rfl, G3.out⟩
set_option maxRecDepth 100000 in
set_option maxHeartbeats 1000000 in
theorem gver_ok (A : Nat → Addr) (w : World) (b : Nat) (mb : Option Nat) (ov : Value) (s : Rg) (d sg k : List Nat) (id dom : ByteArray) (va sa : Option Addr) (vc sc : Nat) (m : List Nat) (hs : GoodG s) (hm : MapO w mb (s.bk.map (bookP s))) (hb : w.heap[b]? = some (.cells #[ov, .map mb] 83 (0, 0)))
    (hgt : s.get id = some k) (hS : Bytes w (.slice sa sg.length sc) sg) (h2 : dom.size ≤ 1000) (h3 : m.length ≤ 100000) (h4 : sg.length ≤ 1152921504606846976) (hd : d.length = 32) (hd8 : ∀ x ∈ d, x < 256) (hE : AllErrs w A)
    (HR : Calls Tryd.prog 33 #[.pointer (some ⟨b, 0, none⟩), .string id, .string dom, .slice va m.length vc] w fun e w' => w.grownBy w' none ∧ ∃ g, e = .returned (.tuple #[.agg (entA k dom (strOf m)), .slice (some ⟨g, 0, none⟩) 32 32, .nilIface]) ∧ w.heap.size ≤ g ∧ w'.heap[g]? = some (.cells (bytesV d) 64 (0, 0))) :
    Calls Tryd.prog 21 #[.pointer (some ⟨b, 0, none⟩), .string id, .string dom, .slice va m.length vc, .slice sa sg.length sc] w fun e w' => e = .returned (if d = sg ∧ (id, dom, strOf m) ∈ s.bk then .nilIface else errV A 12) ∧ w.grownBy w' none := by
  have HBB := Lib.hid hb
  obtain ⟨M, hM⟩ : ∃ M, M = strOf m := ⟨_, rfl⟩
  have hMs : M.size ≤ 100000 := by rw [hM, strOf_size]; exact h3
  obtain ⟨X, hX⟩ : ∃ X, X = entA k dom M := ⟨_, rfl⟩
  have hX34 : X.size = 34 := by rw [hX]; exact entA_size (hs.got hgt).2.1 _ _
  have HXi : Hid ((Tryd.prog.info? 86).map (·.size) = some X.size) := Lib.hid (entI hX34)
  have HXo : Hid (X.all (·.oneCell') = true) := Lib.hid (by rw [hX]; exact entA_one _ _ _)
  obtain ⟨Z, hZ⟩ : ∃ Z, Z = zEnt := ⟨_, rfl⟩
  have hz := zEnt_at
  rw [← hZ] at hz
  have HZX : Hid (Z.size = X.size) := Lib.hid (by rw [hX34, hZ]; rfl)
  have HXl : Hid ((Tryd.prog.info? 86).map (·.size) = some X.toList.length) := Lib.hid (by rw [Array.length_toList]; exact HXi.out)
  rw [← hM, ← hX] at HR
  have HR := Lib.hid HR
  have e12 := errs_at hE 12 (by decide)
  have HL12 := hE.lt 11 (by decide)
  simp only [errVars, List.getD_cons_zero, List.getD_cons_succ, Nat.add_one_sub_one] at e12 HL12
  have HE12 : Hid (∀ W, w.grownBy W none → W.cell? ⟨11, 0, none⟩ = some (errV A 12)) := Lib.hid (fun W hW => by rw [World.cell?_of_block (hW.block _ HL12 (by simp))]; exact e12)
  have HLk : Hid (∀ W, w.grownBy W none → (Instr.lookup 81 (.map mb) (.agg X) false).run Tryd.prog W = .ok (.bool (decide ((id, dom, M) ∈ s.bk))) W) := Lib.hid (fun W hW => by
    rw [hX]
    exact bk_look hs (hm.of (fun q hk => hW.block q (by subst hk; exact MapL.lt hm) (by simp))) id dom M k hgt h2 hMs)
  have HSm : Hid (∀ W g, w.grownBy W none → W.heap[g]? = some (.cells (bytesV d) 64 (0, 0)) → Calls Tryd.prog 34 #[.slice (some ⟨g, 0, none⟩) 32 32, .slice sa sg.length sc] W fun e w' => e = .returned (.bool (decide (d = sg))) ∧ ∃ m, w' = W.drewN m) := Lib.hid (fun W g hg hx => by
    have hBd := row_bytes hd8 hx
    rw [hd] at hBd
    exact same_any _ _ d sg W hBd (hS.grown hg) (by omega) h4)
  rw [← hM]
  obtain ⟨q1, hq1⟩ : ∃ q, q = decide (d = sg) := ⟨_, rfl⟩
  obtain ⟨q2, hq2⟩ : ∃ q, q = decide ((id, dom, M) ∈ s.bk) := ⟨_, rfl⟩
  have hP : (if d = sg ∧ (id, dom, M) ∈ s.bk then Value.nilIface else errV A 12) = if q1 = true ∧ q2 = true then Value.nilIface else errV A 12 := by
    rw [hq1, hq2]; simp only [decide_eq_true_eq]
  rw [hP]
  rw [← hq1] at HSm
  rw [← hq2] at HLk
  clear hP hq1 hq2 hb hM hMs hs hm hS h2 h3 h4 hd hd8 hE e12 HL12 hX hX34 hZ hgt
  generalize m.length = ml at *
  generalize sg.length = sl at *
  generalize bytesV d = D at *
  cases q1
  · rw [if_neg (by simp)]
    go_enter Tryd.func21, Tryd.ntmps21
    go_wp2_with (first
      | (go_at_call 33; refine HR.out.mono ?_; rintro e w2 ⟨hg2, g, rfl, hgg, hgd⟩; have G2 := Lib.hid hg2; have GG := Lib.hid hgg; have GD := Lib.hid hgd; clear hg2 hgg hgd)
      | (refine wpList_store_row (by rfl) 86 (.tmp 11) (.tmp 20) (by rfl) w2.heap.size X (by rfl) (by rfl) _ _ (alloc_at w2 _) HXi.out HZX.out HXo.out ?_; obtain ⟨w3, hw3⟩ : ∃ w3, w3 = (w2.alloc (.cells Z 86)).setRow w2.heap.size X := ⟨_, rfl⟩; rw [← hw3]; have g3 : w2.grownBy w3 none := (by rw [hw3]; exact grown_setRow (World.grownBy_alloc _ _ _) (Nat.le_refl _) _); have x3 : Hid (w3.heap[w2.heap.size]? = some (.cells X 86 (0, 0))) := Lib.hid (by rw [hw3]; exact setRow_heap _ _ _ _ _ _ (alloc_at w2 _)); have G3 := Lib.hid (grown_trans G2.out g3); have D3 := Lib.hid ((g3.block _ (blk_lt GD.out) (by simp)).trans GD.out); clear g3 hw3))
    refine wp_region_quiet_tail (fun w' => ∃ n, w' = w3.drewN n) 12 (by kernel_rfl) (by kernel_rfl) ⟨1, rfl⟩ ?_
    simp only [List.take_succ_cons, List.take_zero, List.drop_succ_cons, List.drop_zero]
    iterate 2 (go_big_quiet_step (fail))
    refine wpQuiet_call (by rfl) 34 #[.slice (some ⟨g, 0, none⟩) 32 32, .slice sa sl sc] (.bool false) (fun _ => by simp [go_sem]) (fun w' hw' => by
      obtain ⟨n, rfl⟩ := hw'
      exact (HSm.out (w3.drewN n) g (grown_drewN G3.out n) D3.out).mono (fun e w'' h => ⟨h.1, by obtain ⟨k, hk⟩ := h.2; exact ⟨n + k, by rw [hk]; simp [World.drewN, Nat.add_assoc]⟩⟩)) ?_
    simp only [Act.put, List.setIfInBounds_toArray, List.set_cons_succ, List.set_cons_zero]
    repeat (go_big_quiet_step (fail))
    refine wpQuiet_nil ?_
    rintro _ ⟨n3, rfl⟩
    have e12 := HE12.out _ (grown_drewN G3.out n3)
    go_wp2
    go_ret
    exact ⟨rfl, grown_drewN G3.out _⟩
  · obtain ⟨R, hR⟩ : ∃ R, R = if true = true ∧ q2 = true then Value.nilIface else errV A 12 := ⟨_, rfl⟩
    rw [← hR]
    have HRR := Lib.hid hR
    clear hR
    go_enter Tryd.func21, Tryd.ntmps21
    go_wp2_with (first
      | (go_at_call 33; refine HR.out.mono ?_; rintro e w2 ⟨hg2, g, rfl, hgg, hgd⟩; have G2 := Lib.hid hg2; have GG := Lib.hid hgg; have GD := Lib.hid hgd; clear hg2 hgg hgd)
      | (refine wpList_store_row (by rfl) 86 (.tmp 11) (.tmp 20) (by rfl) w2.heap.size X (by rfl) (by rfl) _ _ (alloc_at w2 _) HXi.out HZX.out HXo.out ?_; obtain ⟨w3, hw3⟩ : ∃ w3, w3 = (w2.alloc (.cells Z 86)).setRow w2.heap.size X := ⟨_, rfl⟩; rw [← hw3]; have g3 : w2.grownBy w3 none := (by rw [hw3]; exact grown_setRow (World.grownBy_alloc _ _ _) (Nat.le_refl _) _); have x3 : Hid (w3.heap[w2.heap.size]? = some (.cells X 86 (0, 0))) := Lib.hid (by rw [hw3]; exact setRow_heap _ _ _ _ _ _ (alloc_at w2 _)); have G3 := Lib.hid (grown_trans G2.out g3); have D3 := Lib.hid ((g3.block _ (blk_lt GD.out) (by simp)).trans GD.out); clear g3 hw3))
    have c1 : w3.cell? ⟨b, 1, none⟩ = some (.map mb) := by rw [World.cell?_of_block (G3.out.block b (blk_lt HBB.out) (by simp))]; exact cell_blk HBB.out 1 rfl
    have lk : ∀ q, (Instr.lookup 81 (.map mb) (.agg X) false).run Tryd.prog (w3.drewN q) = .ok (.bool q2) (w3.drewN q) := fun q => HLk.out _ (grown_drewN G3.out q)
    refine wp_region_quiet_tail (fun w' => ∃ n, w' = w3.drewN n) 12 (by kernel_rfl) (by kernel_rfl) ⟨1, rfl⟩ ?_
    simp only [List.take_succ_cons, List.take_zero, List.drop_succ_cons, List.drop_zero]
    iterate 2 (go_big_quiet_step (fail))
    refine wpQuiet_call (by rfl) 34 #[.slice (some ⟨g, 0, none⟩) 32 32, .slice sa sl sc] (.bool true) (fun _ => by simp [go_sem]) (fun w' hw' => by
      obtain ⟨n, rfl⟩ := hw'
      exact (HSm.out (w3.drewN n) g (grown_drewN G3.out n) D3.out).mono (fun e w'' h => ⟨h.1, by obtain ⟨k, hk⟩ := h.2; exact ⟨n + k, by rw [hk]; simp [World.drewN, Nat.add_assoc]⟩⟩)) ?_
    simp only [Act.put, List.setIfInBounds_toArray, List.set_cons_succ, List.set_cons_zero]
    iterate 6 (go_big_quiet_step (fail))
    refine wpQuiet_load_midG (by rfl) 86 (.tmp 11) (by rfl) w2.heap.size 0 (by rfl) X.toList _ (fun w' hw' => by
      obtain ⟨n, rfl⟩ := hw'
      exact range_all (w := w3) x3.out) Tryd.underlying86 rfl HXl.out ?_
    simp only [Act.put, List.setIfInBounds_toArray, List.set_cons_succ, List.set_cons_zero]
    repeat (go_big_quiet_step (fail))
    refine wpQuiet_nil ?_
    rintro _ ⟨n3, rfl⟩
    have e12 := HE12.out _ (grown_drewN G3.out n3)
    cases q2
    · go_wp2
      go_ret
      exact ⟨by rw [HRR.out]; simp, grown_drewN G3.out _⟩
    · go_wp2
      go_ret
      exact ⟨by rw [HRR.out]; simp, grown_drewN G3.out _⟩
end Go.Proofs.YtgdnndapmcjoeaaDoor
namespace Go.Proofs.YtgdnndapmcjoeaaDoor
open Go.RowKit Go.Maps
open Go.ChangeMaps (setBlock)
set_option linter.unusedVariables false
/-- The program's ring, in block b. -/
structure PrG (W0 : World) (F : Nat → Prop) (b : Nat) (s : Rg) (w : World) : Prop where
  base : W0.grownBy w none
  own : ∀ k, F k → W0.heap.size ≤ k ∧ k < w.heap.size
  mem : F b
  good : GoodG s
  body : ∃ mk mb, w.heap[b]? = some (.cells #[.map mk, .map mb] 83 (0, 0)) ∧ MapO w mk (s.ks.map keyP) ∧ MapO w mb (s.bk.map (bookP s)) ∧ (∀ k, mk = some k → F k ∧ k ≠ b) ∧ (∀ k, mb = some k → F k ∧ k ≠ b) ∧ ∀ k, mk = some k → mb ≠ some k
section
variable {W0 w w' : World} {F : Nat → Prop} {b : Nat} {s : Rg}
theorem PrG.new (hb : W0.grownBy w none) : PrG W0 (fun k => k = w.heap.size) w.heap.size Rg.none (w.alloc (.cells #[.map none, .map none] 83)) :=
  ⟨grown_alloc hb _, fun k hk => by rw [hk, alloc_size]; have := hb.size; omega, rfl, good_none, none, none, alloc_at _ _, rfl, rfl, fun k hk => (by cases hk), fun k hk => (by cases hk), fun k hk => (by cases hk)⟩
theorem PrG.other {G G' : Nat → Prop} (h : PrG W0 F b s w) (hG : ∀ k, G k → W0.heap.size ≤ k) (ht : Turn G G' w w') (ha : Apart G F) : PrG W0 F b s w' := by
  obtain ⟨mk, mb, h1, h2, h3, h4, h5, h6⟩ := h.body
  have hk : ∀ k, F k → w'.heap[k]? = w.heap[k]? := fun k hk => ht.upto.block k (h.own k hk).2 (fun hg => ha k hg hk)
  exact ⟨ht.upto.base h.base hG, fun k hk => ⟨(h.own k hk).1, Nat.lt_of_lt_of_le (h.own k hk).2 ht.upto.size⟩, h.mem, h.good, mk, mb, (hk b h.mem).trans h1, h2.of (fun k e => hk k (h4 k e).1), h3.of (fun k e => hk k (h5 k e).1), h4, h5, h6⟩
theorem PrG.still (h : PrG W0 F b s w) (hg : w.grownBy w' none) : PrG W0 F b s w' :=
  h.other (G := fun _ => False) (G' := fun _ => False) (fun _ h => h.elim) (Turn.of_grown hg) (fun _ h => h.elim)
end
/-- What a call of reckon comes to. -/
def recE (s : Rg) (id dom : ByteArray) (m : List Nat) : Nat := if s.get id = none then 10 else fErr (strL dom) [m]
def recS (s : Rg) (id dom : ByteArray) (m : List Nat) : List Nat := Hm.hmac ((s.get id).getD []) (frameOf (strL dom) [m])
theorem recS_len (s : Rg) (id dom : ByteArray) (m : List Nat) : (recS s id dom m).length = 32 := hmac_len _ _
theorem recS_lt (s : Rg) (id dom : ByteArray) (m : List Nat) : ∀ x ∈ recS s id dom m, x < 256 := hmac_lt _ _
section
variable {A : Nat → Addr} {W0 w w' : World} {F : Nat → Prop} {b : Nat} {s : Rg}
theorem PrG.lookK (h : PrG W0 F b s w) {mk : Option Nat} (h2 : MapO w mk (s.ks.map keyP)) (id : ByteArray) (hi : id.size ≤ 1000) : ∀ W, w.grownBy W none → (Instr.lookup 80 (.map mk) (.string id) true).run Tryd.prog W = .ok (match s.get id with | none => .tuple #[.agg zeros32, .bool false] | some k => .tuple #[.agg (bytesV k), .bool true]) W := fun W hW =>
  ks_look h.good (h2.of (fun q hq => hW.block q (by subst hq; exact MapL.lt h2) (by simp))) id hi
theorem pgReckon_err (h : PrG W0 F b s w) (hE : AllErrs W0 A) (hL : Laid W0) (id dom : ByteArray) (hi : id.size ≤ 1000) (hd : dom.size ≤ 1000) (va : Option Addr) (vc : Nat) (m : List Nat) (hm : Bytes w (.slice va m.length vc) m) (hm0 : Whole0 (.slice va m.length vc)) (he : recE s id dom m ≠ 0) :
    Calls Tryd.prog 33 #[.pointer (some ⟨b, 0, none⟩), .string id, .string dom, .slice va m.length vc] w fun e w' => e = .returned (.tuple #[.agg zEnt, .slice none 0 0, errV A (recE s id dom m)]) ∧ w.grownBy w' none := by
  obtain ⟨mk, mb, h1, h2, h3, h4, h5, h6⟩ := h.body
  have hl := h.lookK h2 id hi
  unfold recE at he ⊢
  cases hg : s.get id with
  | none =>
    rw [hg] at hl
    rw [if_pos rfl]
    exact reckon_none A w b mk _ id dom _ h1 hl (hE.grown h.base)
  | some k =>
    rw [hg] at hl he
    rw [if_neg (by simp)] at he
    rw [if_neg (by simp)]
    obtain ⟨_, hk, hk8⟩ := h.good.got hg
    exact reckon_err A w b mk _ id dom va vc m k h1 hl (hE.grown h.base) (hL.grown h.base (by simp) (by simp)) hk hk8 hm hm0 (by omega) he
theorem pgReckon_ok (h : PrG W0 F b s w) (hE : AllErrs W0 A) (hL : Laid W0) (id dom : ByteArray) (hi : id.size ≤ 1000) (hd : dom.size ≤ 1000) (va : Option Addr) (vc : Nat) (m : List Nat) (hm : Bytes w (.slice va m.length vc) m) (hm0 : Whole0 (.slice va m.length vc)) (he : recE s id dom m = 0) :
    ∃ k, s.get id = some k ∧ Calls Tryd.prog 33 #[.pointer (some ⟨b, 0, none⟩), .string id, .string dom, .slice va m.length vc] w fun e w' => w.grownBy w' none ∧ ∃ g, e = .returned (.tuple #[.agg (entA k dom (strOf m)), .slice (some ⟨g, 0, none⟩) 32 32, .nilIface]) ∧ w.heap.size ≤ g ∧ w'.heap[g]? = some (.cells (bytesV (recS s id dom m)) 64 (0, 0)) := by
  obtain ⟨mk, mb, h1, h2, h3, h4, h5, h6⟩ := h.body
  have hl := h.lookK h2 id hi
  unfold recE at he
  unfold recS
  cases hg : s.get id with
  | none => rw [hg, if_pos rfl] at he; exact absurd he (by decide)
  | some k =>
    rw [hg] at hl he
    rw [if_neg (by simp)] at he
    obtain ⟨_, hk, hk8⟩ := h.good.got hg
    exact ⟨k, rfl, reckon_ok A w b mk _ id dom va vc m k h1 hl (hE.grown h.base) (hL.grown h.base (by simp) (by simp)) hk hk8 hm hm0 (by omega) he⟩
theorem PrG.turnK (h : PrG W0 F b s w) {mk mb : Option Nat} {g : Nat} {s' : Rg} (hs : GoodG s') (hbk : s'.bk.map (bookP s') = s.bk.map (bookP s)) (h1 : w.heap[b]? = some (.cells #[.map mk, .map mb] 83 (0, 0))) (h3 : MapO w mb (s.bk.map (bookP s))) (h4 : ∀ k, mk = some k → F k ∧ k ≠ b) (h5 : ∀ k, mb = some k → F k ∧ k ≠ b) (h6 : ∀ k, mk = some k → mb ≠ some k)
    (ht : TurnG w w' b mk g (s'.ks.map keyP)) (hb : w'.heap[b]? = some (.cells #[.map (some g), .map mb] 83 (0, 0))) : Turn F (fun k => F k ∨ k = g) w w' ∧ PrG W0 (fun k => F k ∨ k = g) b s' w' := by
  have hu : Upto F w w' := ht.upto.mono (fun k _ hk => hk.elim (fun e => by rw [e]; exact h.mem) (fun e => (h4 k e).1))
  have hbl := (h.own b h.mem).2
  have hg0 := h.base.size
  have hnew : mk ≠ some g → w.heap.size ≤ g := fun hne => ht.from_.elim (fun e => absurd e hne) (fun e => e.2)
  refine ⟨⟨hu, fun k hk hf => hf.elim id (fun e => ?_)⟩, hu.base h.base (fun k hk => (h.own k hk).1), fun k hk => ?_, .inl h.mem, hs, some g, mb, hb, ht.map, ?_, fun k hk => ?_, fun k hk => ⟨.inl (h5 k hk).1, (h5 k hk).2⟩, fun k hk e => ?_⟩
  · rcases ht.from_ with e2 | ⟨_, e2⟩
    · exact (h4 k (by rw [e2, e])).1
    · omega
  · rcases hk with hk | rfl
    · exact ⟨(h.own k hk).1, Nat.lt_of_lt_of_le (h.own k hk).2 hu.size⟩
    · refine ⟨?_, ht.map.lt⟩
      rcases ht.from_ with e2 | ⟨_, e2⟩
      · exact (h.own _ (h4 _ e2).1).1
      · omega
  · rw [hbk]
    refine h3.of (fun k hk => ht.upto.block k (h.own k (h5 k hk).1).2 (fun hn => hn.elim (fun e => (h5 k hk).2 e) (fun e => h6 k e hk)))
  · have e := Option.some.inj hk
    subst e
    refine ⟨.inr rfl, ?_⟩
    rcases ht.from_ with e2 | ⟨_, e2⟩
    · exact (h4 _ e2).2
    · omega
  · have e2 := Option.some.inj hk
    subst e2
    rcases ht.from_ with e3 | ⟨_, e3⟩
    · exact h6 _ e3 e
    · have := (h.own _ (h5 _ e).1).2; omega
theorem PrG.turnB (h : PrG W0 F b s w) {mk mb : Option Nat} {g : Nat} {s' : Rg} (hs : GoodG s') (hks : s'.ks = s.ks) (h1 : w.heap[b]? = some (.cells #[.map mk, .map mb] 83 (0, 0))) (h2 : MapO w mk (s.ks.map keyP)) (h4 : ∀ k, mk = some k → F k ∧ k ≠ b) (h5 : ∀ k, mb = some k → F k ∧ k ≠ b) (h6 : ∀ k, mk = some k → mb ≠ some k)
    (ht : TurnG w w' b mb g (s'.bk.map (bookP s'))) (hb : w'.heap[b]? = some (.cells #[.map mk, .map (some g)] 83 (0, 0))) : Turn F (fun k => F k ∨ k = g) w w' ∧ PrG W0 (fun k => F k ∨ k = g) b s' w' := by
  have hu : Upto F w w' := ht.upto.mono (fun k _ hk => hk.elim (fun e => by rw [e]; exact h.mem) (fun e => (h5 k e).1))
  have hbl := (h.own b h.mem).2
  have hg0 := h.base.size
  refine ⟨⟨hu, fun k hk hf => hf.elim id (fun e => ?_)⟩, hu.base h.base (fun k hk => (h.own k hk).1), fun k hk => ?_, .inl h.mem, hs, mk, some g, hb, ?_, ht.map, fun k hk => ⟨.inl (h4 k hk).1, (h4 k hk).2⟩, fun k hk => ?_, fun k hk e => ?_⟩
  · rcases ht.from_ with e2 | ⟨_, e2⟩
    · exact (h5 k (by rw [e2, e])).1
    · omega
  · rcases hk with hk | rfl
    · exact ⟨(h.own k hk).1, Nat.lt_of_lt_of_le (h.own k hk).2 hu.size⟩
    · refine ⟨?_, ht.map.lt⟩
      rcases ht.from_ with e2 | ⟨_, e2⟩
      · exact (h.own _ (h5 _ e2).1).1
      · omega
  · rw [hks]
    refine h2.of (fun k hk => ht.upto.block k (h.own k (h4 k hk).1).2 (fun hn => hn.elim (fun e => (h4 k hk).2 e) (fun e => h6 k hk e)))
  · have e := Option.some.inj hk
    subst e
    refine ⟨.inr rfl, ?_⟩
    rcases ht.from_ with e2 | ⟨_, e2⟩
    · exact (h5 _ e2).2
    · omega
  · have e2 := Option.some.inj e
    subst e2
    rcases ht.from_ with e3 | ⟨_, e3⟩
    · exact h6 _ hk e3
    · have := (h.own _ (h4 _ hk).1).2; omega
theorem id_size (k : List Nat) : (idText k).size = 32 := by
  rw [idText, strOf_size, hexL_len, List.length_take, hmac_len]; rfl
theorem pgAdd (h : PrG W0 F b s w) (hE : AllErrs W0 A) (hL : Laid W0) (va : Option Addr) (vc : Nat) (k : List Nat) (hk : k.length = 32) (hB : ∀ W, Upto F w W → Bytes W (.slice va 32 vc) k) :
    Calls Tryd.prog 18 #[.pointer (some ⟨b, 0, none⟩), .slice va 32 vc] w fun e w' => e = .returned (.tuple #[.string (idText k), .nilIface]) ∧ ∃ F', Turn F F' w w' ∧ PrG W0 F' b (s.add (idText k) k) w' := by
  obtain ⟨mk, mb, h1, h2, h3, h4, h5, h6⟩ := h.body
  have hB0 := hB w (Upto.refl F w)
  have hg : GoodG (s.add (idText k) k) := h.good.add (by rw [id_size]; decide) hk hB0.lt rfl
  have hbk : (s.add (idText k) k).bk.map (bookP (s.add (idText k) k)) = s.bk.map (bookP s) := by rw [Rg.add_bk]; exact bookP_add h.good _ _
  cases hgt : s.get (idText k) with
  | some k0 =>
    refine (gadd_has A w b mk _ s va vc k k0 h.good h2 h1 (hE.grown h.base) (hL.grown h.base (by simp) (by simp)) hk hB0 hgt).mono ?_
    rintro e w' ⟨he, hgr⟩
    refine ⟨he, F, ⟨Upto.of_grown F hgr, fun _ _ hf => hf⟩, ?_⟩
    rw [Rg.add_has hgt]
    exact h.still hgr
  | none =>
  cases mk with
  | some g =>
    refine (gadd_some A w b g _ s va vc k h.good h2 h1 (hE.grown h.base) (hL.grown h.base (by simp) (by simp)) hk hB0 hgt).mono ?_
    rintro e w' ⟨he, ht, hb⟩
    exact ⟨he, _, h.turnK hg hbk h1 h3 h4 h5 h6 ht ((hb (fun e => (h4 g rfl).2 e.symm)).trans h1)⟩
  | none =>
    have he : s.ks = [] := List.map_eq_nil_iff.1 h2
    refine (gadd_none A W0 w b _ s va vc k h.good he h1 hE hL h.base (h.own b h.mem).1 hk (fun W hW => hB W (hW.mono (fun k _ hk => by rw [hk]; exact h.mem)))).mono ?_
    rintro e w' ⟨g, he, ht, hb⟩
    exact ⟨he, _, h.turnK hg hbk h1 h3 h4 h5 h6 ht hb⟩
/-- Whether it has a key. -/
theorem pgHas (h : PrG W0 F b s w) (id : ByteArray) (hi : id.size ≤ 1000) :
    Calls Tryd.prog 17 #[.pointer (some ⟨b, 0, none⟩), .string id] w fun e w' => e = .returned (.bool (s.get id).isSome) ∧ w.grownBy w' none := by
  obtain ⟨mk, mb, h1, h2, h3, h4, h5, h6⟩ := h.body
  exact ghas_any w b mk _ s id hi h.good h2 h1
/-- What signing leaves. -/
def SignOut (A : Nat → Addr) (W0 : World) (F : Nat → Prop) (b : Nat) (s : Rg) (id dom : ByteArray) (m : List Nat) (w w' : World) (e : Ending) : Prop :=
  (recE s id dom m ≠ 0 ∧ e = .returned (.tuple #[.slice none 0 0, errV A (recE s id dom m)]) ∧ w.grownBy w' none) ∨
  (recE s id dom m = 0 ∧ ∃ g F', e = .returned (.tuple #[.slice (some ⟨g, 0, none⟩) 32 32, .nilIface]) ∧ w.heap.size ≤ g ∧ w'.heap[g]? = some (.cells (bytesV (recS s id dom m)) 64 (0, 0)) ∧ ¬ F' g ∧ Turn F F' w w' ∧ PrG W0 F' b (s.sign (id, dom, strOf m)) w')
theorem pgSign (h : PrG W0 F b s w) (hE : AllErrs W0 A) (hL : Laid W0) (id dom : ByteArray) (hi : id.size ≤ 1000) (hd : dom.size ≤ 1000) (va : Option Addr) (vc : Nat) (m : List Nat) (hml : m.length ≤ 100000) (hB : ∀ W, Upto F w W → Bytes W (.slice va m.length vc) m) (hm0 : Whole0 (.slice va m.length vc)) :
    Calls Tryd.prog 19 #[.pointer (some ⟨b, 0, none⟩), .string id, .string dom, .slice va m.length vc] w fun e w' => SignOut A W0 F b s id dom m w w' e := by
  have hB0 := hB w (Upto.refl F w)
  by_cases he : recE s id dom m = 0
  · obtain ⟨mk, mb, h1, h2, h3, h4, h5, h6⟩ := h.body
    obtain ⟨k, hgt, HR⟩ := pgReckon_ok h hE hL id dom hi hd va vc m hB0 hm0 he
    have hg : GoodG (s.sign (id, dom, strOf m)) := h.good.sign ⟨hi, hd, by rw [strOf_size]; exact hml⟩ ⟨k, hgt⟩
    have hnot : ∀ {g gm : Nat} {w' : World}, w.heap.size ≤ g → w'.heap[g]? = some (.cells (bytesV (recS s id dom m)) 64 (0, 0)) → TurnG w w' b mb gm ((s.sign (id, dom, strOf m)).bk.map (bookP s)) → ¬ (F g ∨ g = gm) := fun {g gm w'} hg1 hg2 ht hn => by
      rcases hn with hn | rfl
      · have := (h.own _ hn).2; omega
      · obtain ⟨es, cl, h7, _⟩ := ht.map
        rw [hg2] at h7; cases h7
    cases mb with
    | some gm =>
      refine (gsign_some w b gm _ s _ k id dom va vc m h.good h3 h1 hgt hd hml HR).mono ?_
      rintro e w' ⟨g, rfl, hg1, hg2, ht, hb⟩
      have := h.turnB hg rfl h1 h2 h4 h5 h6 ht ((hb (fun e => (h5 gm rfl).2 e.symm)).trans h1)
      exact .inr ⟨he, g, _, rfl, hg1, hg2, hnot hg1 hg2 ht, this.1, this.2⟩
    | none =>
      have hbk : s.bk = [] := List.map_eq_nil_iff.1 h3
      refine (gsign_none w b _ s _ k id dom va vc m h.good hbk h1 hgt hd hml HR).mono ?_
      rintro e w' ⟨g, gm, rfl, hg1, hg2, ht, hb⟩
      have := h.turnB hg rfl h1 h2 h4 h5 h6 ht hb
      exact .inr ⟨he, g, _, rfl, hg1, hg2, hnot hg1 hg2 ht, this.1, this.2⟩
  · exact (gsign_err A w b _ id dom _ (pgReckon_err h hE hL id dom hi hd va vc m hB0 hm0 he)).mono (fun e w' hp => .inl ⟨he, hp⟩)
/-- What verifying comes to. -/
def verE (s : Rg) (id dom : ByteArray) (m sg : List Nat) : Nat := if recE s id dom m ≠ 0 then recE s id dom m else if recS s id dom m = sg ∧ (id, dom, strOf m) ∈ s.bk then 0 else 12
theorem pgVerify (h : PrG W0 F b s w) (hE : AllErrs W0 A) (hL : Laid W0) (id dom : ByteArray) (hi : id.size ≤ 1000) (hd : dom.size ≤ 1000) (va : Option Addr) (vc : Nat) (m : List Nat) (hml : m.length ≤ 100000) (hB : Bytes w (.slice va m.length vc) m) (hm0 : Whole0 (.slice va m.length vc)) (sa : Option Addr) (sc : Nat) (sg : List Nat) (hsl : sg.length ≤ 1152921504606846976) (hS : Bytes w (.slice sa sg.length sc) sg) :
    Calls Tryd.prog 21 #[.pointer (some ⟨b, 0, none⟩), .string id, .string dom, .slice va m.length vc, .slice sa sg.length sc] w fun e w' => e = .returned (errOf A (verE s id dom m sg)) ∧ w.grownBy w' none := by
  by_cases he : recE s id dom m = 0
  · obtain ⟨mk, mb, h1, h2, h3, h4, h5, h6⟩ := h.body
    obtain ⟨k, hgt, HR⟩ := pgReckon_ok h hE hL id dom hi hd va vc m hB hm0 he
    refine (gver_ok A w b mb _ s _ sg k id dom va sa vc sc m h.good h3 h1 hgt hS hd hml hsl (recS_len _ _ _ _) (recS_lt _ _ _ _) (hE.grown h.base) HR).mono ?_
    rintro e w' ⟨rfl, hg⟩
    refine ⟨?_, hg⟩
    have hv : verE s id dom m sg = if recS s id dom m = sg ∧ (id, dom, strOf m) ∈ s.bk then 0 else 12 := by unfold verE; exact if_neg (fun h => h he)
    rw [hv]
    by_cases hc : recS s id dom m = sg ∧ (id, dom, strOf m) ∈ s.bk
    · rw [if_pos hc, if_pos hc, errOf, if_pos rfl]
    · rw [if_neg hc, if_neg hc, errOf, if_neg (by decide)]
  · refine (gver_err A w b _ id dom _ _ (pgReckon_err h hE hL id dom hi hd va vc m hB hm0 he)).mono ?_
    rintro e w' ⟨rfl, hg⟩
    refine ⟨?_, hg⟩
    unfold verE
    rw [if_pos he, errOf, if_neg he]
end
end Go.Proofs.YtgdnndapmcjoeaaDoor
