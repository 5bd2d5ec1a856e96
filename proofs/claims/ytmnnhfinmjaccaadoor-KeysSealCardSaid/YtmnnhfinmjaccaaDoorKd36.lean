import Derived.Test.YtmnnhfinmjaccaaDoorKd35
namespace Go.Proofs.YtmnnhfinmjaccaaDoor
open Go.RowKit Go.Maps
open Go.ChangeMaps (setBlock)
set_option linter.unusedVariables false
set_option maxRecDepth 100000 in
set_option maxHeartbeats 400000 in
theorem gsign_err (A : Nat → Addr) (w : World) (b k : Nat) (id dom : ByteArray) (vm : Value)
    (HR : Calls Tryd.prog 33 #[.pointer (some ⟨b, 0, none⟩), .string id, .string dom, vm] w fun e w' => e = .returned (.tuple #[.slice none 0 0, errV A k]) ∧ w.grownBy w' none) :
    Calls Tryd.prog 19 #[.pointer (some ⟨b, 0, none⟩), .string id, .string dom, vm] w fun e w' => e = .returned (.tuple #[.slice none 0 0, errV A k]) ∧ w.grownBy w' none := by
  have HR := Lib.hid HR
  go_enter Tryd.func19, Tryd.ntmps19
  go_wp2_with (go_at_call 33; refine HR.out.mono ?_; rintro e w2 ⟨rfl, hg2⟩; have G2 := Lib.hid hg2; clear hg2)
  go_returns
  exact ⟨rfl, G2.out⟩
set_option maxRecDepth 100000 in
set_option maxHeartbeats 1000000 in
/-- Where there is a book. -/
theorem gsign_some (w : World) (b gm : Nat) (ov : Value) (s : Rg) (D : Array Value) (id dom : ByteArray) (va : Option Addr) (vc : Nat) (m : List Nat) (hs : GoodG s) (hm : MapL w gm (s.bk.map bookP)) (hb : w.heap[b]? = some (.cells #[ov, .map (some gm)] 83 (0, 0)))
    (hB : Bytes w (.slice va m.length vc) m) (h1 : id.size ≤ 1000) (h2 : dom.size ≤ 1000) (h3 : m.length ≤ 100000)
    (HR : Calls Tryd.prog 33 #[.pointer (some ⟨b, 0, none⟩), .string id, .string dom, .slice va m.length vc] w fun e w' => w.grownBy w' none ∧ ∃ g, e = .returned (.tuple #[.slice (some ⟨g, 0, none⟩) 32 32, .nilIface]) ∧ w.heap.size ≤ g ∧ w'.heap[g]? = some (.cells D 64 (0, 0))) :
    Calls Tryd.prog 19 #[.pointer (some ⟨b, 0, none⟩), .string id, .string dom, .slice va m.length vc] w fun e w' => ∃ g, e = .returned (.tuple #[.slice (some ⟨g, 0, none⟩) 32 32, .nilIface]) ∧ w.heap.size ≤ g ∧ w'.heap[g]? = some (.cells D 64 (0, 0)) ∧ TurnG w w' b (some gm) gm ((s.sign (id, dom, strOf m)).bk.map bookP) ∧ (b ≠ gm → w'.heap[b]? = w.heap[b]?) := by
  have HR := Lib.hid HR
  have HBB := Lib.hid hb
  obtain ⟨M, hM⟩ : ∃ M, M = strOf m := ⟨_, rfl⟩
  have hMs : M.size ≤ 100000 := by rw [hM, strOf_size]; exact h3
  obtain ⟨es', cl', hu, hes⟩ := bk_put hs hm id dom M h1 h2 hMs
  have HU := Lib.hid hu
  have HGL : Hid (gm < w.heap.size) := Lib.hid hm.lt
  have HCV : Hid (∀ W, w.grownBy W none → (convert 22 9 (.slice va m.length vc)).run Tryd.prog W = .ok (.string M) W) := Lib.hid (fun W hW => by rw [hM]; exact conv_bytes (hB.grown hW) _ 5 _ Tryd.underlying22 Tryd.underlying5 Tryd.underlying9)
  rw [← hM, ← hes]
  clear hb hM hMs hu hes hm hs hB h1 h2 h3
  generalize m.length = ml at *
  go_enter Tryd.func19, Tryd.ntmps19
  go_wp2_with (go_at_call 33; refine HR.out.mono ?_; rintro e w2 ⟨hg2, g, rfl, hgg, hgd⟩; have G2 := Lib.hid hg2; have GG := Lib.hid hgg; have GD := Lib.hid hgd; have c1 : w2.cell? ⟨b, 1, none⟩ = some (.map (some gm)) := (by rw [World.cell?_of_block (hg2.block b (blk_lt HBB.out) (by simp))]; exact cell_blk HBB.out 1 rfl); have hq := run_eql_map_nil (P := Tryd.prog) w2 (some gm) mapET; have cv : ∀ q, (convert 22 9 (.slice va ml vc)).run Tryd.prog (w2.drewN q) = .ok (.string M) (w2.drewN q) := (fun q => HCV.out _ (grown_drewN G2.out q)); clear hg2 hgg hgd)
  refine wp_region_quiet_tail (fun w' => ∃ n, w' = w2.drewN n) 9 (by kernel_rfl) (by kernel_rfl) ⟨1, rfl⟩ ?_
  simp only [List.take_succ_cons, List.take_zero, List.drop_succ_cons, List.drop_zero]
  repeat (go_big_quiet_step (fail))
  refine wpQuiet_nil ?_
  rintro _ ⟨n3, rfl⟩
  refine wpList_upd (by rfl) (.tmp 35) (.tmp 40) (.const (.bool true)) (by rfl) _ _ _ (by rfl) (by rfl) (by rfl) (HU.out (w2.drewN n3) (G2.out.block gm HGL.out (by simp))) ?_
  go_wp2
  go_returns
  have hbl := blk_lt HBB.out
  refine ⟨_, rfl, GG.out, ?_, ⟨upto_setB (Upto.of_grown _ G2.out) (.inl rfl) _, mapL_set (Nat.lt_of_lt_of_le HGL.out G2.out.size) _ _, .inl rfl⟩, fun hne => ((setB_grown (w := w2.drewN n3) (b := gm) _).block b (Nat.lt_of_lt_of_le hbl G2.out.size) (fun e => hne (Option.some.inj e))).trans (G2.out.block b hbl (by simp))⟩
  refine ((setB_grown (w := w2.drewN n3) (b := gm) _).block g (blk_lt GD.out) (fun e => ?_)).trans GD.out
  have e := Option.some.inj e
  have := GG.out
  have := HGL.out
  omega
end Go.Proofs.YtmnnhfinmjaccaaDoor
namespace Go.Proofs.YtmnnhfinmjaccaaDoor
open Go.RowKit Go.Maps
open Go.ChangeMaps (setBlock)
set_option linter.unusedVariables false
/-- A first map of a ring is made. -/
theorem made_map {w : World} {b : Nat} {ov : Value} (hb : w.heap[b]? = some (.cells #[ov, .map none] 83 (0, 0))) :
    ∃ W1, W1 = (w.alloc (.map #[] 0)).setCell ⟨b, 1, none⟩ (.map (some w.heap.size)) ∧ W1.heap.size = w.heap.size + 1 ∧ MapL W1 w.heap.size [] ∧ W1.heap[b]? = some (.cells #[ov, .map (some w.heap.size)] 83 (0, 0)) ∧ Upto (fun k => k = b) w W1 := by
  have hbl := blk_lt hb
  refine ⟨_, rfl, by rw [setCell_size, alloc_size], mapL_of (mapL_new w) (Below.heap_setCell _ _ _ _ (by show ¬ w.heap.size = b; omega)), ?_, rfl, rfl, rfl, by rw [setCell_size, alloc_size]; omega, fun k hk hn => ?_⟩
  · have := setCell_heap (i := 1) (alloc_keep (o := .map #[] 0) hb) (.map (some w.heap.size))
    simpa using this
  · exact (Below.heap_setCell _ _ _ _ hn).trans (alloc_old _ _ _ hk)
set_option maxRecDepth 100000 in
set_option maxHeartbeats 1000000 in
/-- Where there is no book. -/
theorem gsign_none (w : World) (b : Nat) (ov : Value) (s : Rg) (D : Array Value) (id dom : ByteArray) (va : Option Addr) (vc : Nat) (m : List Nat) (hs : GoodG s) (he : s.bk = []) (hb : w.heap[b]? = some (.cells #[ov, .map none] 83 (0, 0)))
    (hB : ∀ W, Upto (fun j => j = b) w W → Bytes W (.slice va m.length vc) m) (h1 : id.size ≤ 1000) (h2 : dom.size ≤ 1000) (h3 : m.length ≤ 100000)
    (HR : Calls Tryd.prog 33 #[.pointer (some ⟨b, 0, none⟩), .string id, .string dom, .slice va m.length vc] w fun e w' => w.grownBy w' none ∧ ∃ g, e = .returned (.tuple #[.slice (some ⟨g, 0, none⟩) 32 32, .nilIface]) ∧ w.heap.size ≤ g ∧ w'.heap[g]? = some (.cells D 64 (0, 0))) :
    Calls Tryd.prog 19 #[.pointer (some ⟨b, 0, none⟩), .string id, .string dom, .slice va m.length vc] w fun e w' => ∃ g gm, e = .returned (.tuple #[.slice (some ⟨g, 0, none⟩) 32 32, .nilIface]) ∧ w.heap.size ≤ g ∧ w'.heap[g]? = some (.cells D 64 (0, 0)) ∧ TurnG w w' b none gm ((s.sign (id, dom, strOf m)).bk.map bookP) ∧ w'.heap[b]? = some (.cells #[ov, .map (some gm)] 83 (0, 0)) := by
  have HR := Lib.hid HR
  have HBB := Lib.hid hb
  obtain ⟨M, hM⟩ : ∃ M, M = strOf m := ⟨_, rfl⟩
  have hMs : M.size ≤ 100000 := by rw [hM, strOf_size]; exact h3
  obtain ⟨L, hL⟩ : ∃ L, L = (s.sign (id, dom, M)).bk.map bookP := ⟨_, rfl⟩
  have HU : Hid (∀ (W : World) (g : Nat), MapL W g [] → ∃ es' clock', (∀ X : World, X.heap[g]? = W.heap[g]? → (Instr.mapUpdate 81 (.map (some g)) (.agg #[.string id, .string dom, .string M]) (.bool true)).run Tryd.prog X = .ok () (setBlock X g (.map es' clock'))) ∧ es'.toList.map (fun x => (x.key, x.val)) = L) := Lib.hid (fun W g hm => by
    rw [hL]
    exact bk_put hs (w := W) (g := g) (by rw [he]; exact hm) id dom M h1 h2 hMs)
  have HCV : Hid (∀ W, Upto (fun j => j = b) w W → (convert 22 9 (.slice va m.length vc)).run Tryd.prog W = .ok (.string M) W) := Lib.hid (fun W hW => by rw [hM]; exact conv_bytes (hB W hW) _ 5 _ Tryd.underlying22 Tryd.underlying5 Tryd.underlying9)
  rw [← hM, ← hL]
  have hmm := @run_makeMap Tryd.prog
  clear hb hM hMs hL he hs hB h1 h2 h3
  generalize m.length = ml at *
  go_enter Tryd.func19, Tryd.ntmps19
  go_wp2_with (go_at_call 33; refine HR.out.mono ?_; rintro e w2 ⟨hg2, g, rfl, hgg, hgd⟩; have G2 := Lib.hid hg2; have GG := Lib.hid hgg; have GD := Lib.hid hgd; have hb2 := (hg2.block b (blk_lt HBB.out) (by simp)).trans HBB.out; have HB2 := Lib.hid hb2; have c1 := cell_blk hb2 1 rfl; have hq := run_eql_map_nil (P := Tryd.prog) w2 none mapET; have f1 : (w2.alloc (.map #[] 0)).frozen? ⟨b, 1, none⟩ = false := free_blk (alloc_keep hb2) 1; have c1' : (w2.alloc (.map #[] 0)).cell? ⟨b, 1, none⟩ = some (.map none) := cell_blk (alloc_keep hb2) 1 rfl; clear hg2 hgg hgd hb2)
  obtain ⟨W1, hW1, s1, m1, b1, u1⟩ := made_map HB2.out
  rw [← hW1]
  have U1 : Upto (fun j => j = b) w W1 := (Upto.of_grown (fun j => j = b) G2.out).trans u1 (fun _ _ h => h)
  have cv : ∀ q, (convert 22 9 (.slice va ml vc)).run Tryd.prog (W1.drewN q) = .ok (.string M) (W1.drewN q) := fun q => HCV.out _ ⟨U1.os, U1.tape, U1.output, U1.size, U1.block⟩
  obtain ⟨es', cl', hu, hes⟩ := HU.out W1 w2.heap.size m1
  have HU2 := Lib.hid hu
  have c2 := cell_blk b1 1 rfl
  have HB1 := Lib.hid b1
  have HU1 := Lib.hid U1
  have HS1 := Lib.hid s1
  have Hu1 := Lib.hid u1
  have HES := Lib.hid hes
  clear hW1 s1 m1 b1 u1 U1 hu hes f1 c1' c1
  refine wp_region_quiet_tail (fun w' => ∃ n, w' = W1.drewN n) 9 (by kernel_rfl) (by kernel_rfl) ⟨1, rfl⟩ ?_
  simp only [List.take_succ_cons, List.take_zero, List.drop_succ_cons, List.drop_zero]
  repeat (go_big_quiet_step (fail))
  refine wpQuiet_nil ?_
  rintro _ ⟨n3, rfl⟩
  refine wpList_upd (by rfl) (.tmp 35) (.tmp 40) (.const (.bool true)) (by rfl) _ _ _ (by rfl) (by rfl) (by rfl) (HU2.out (W1.drewN n3) rfl) ?_
  go_wp2
  go_returns
  have hs2 := G2.out.size
  have hgm : w2.heap.size < W1.heap.size := by rw [HS1.out]; omega
  have hne : ∀ k, k < w2.heap.size → (setBlock (W1.drewN n3) w2.heap.size (.map es' cl')).heap[k]? = W1.heap[k]? := fun k hk => (setB_grown (w := W1.drewN n3) (b := w2.heap.size) _).block k (by show k < W1.heap.size; omega) (fun e => by have := Option.some.inj e; omega)
  have hbl := blk_lt HBB.out
  refine ⟨_, _, rfl, GG.out, ?_, ⟨upto_setB (HU1.out.mono (fun k _ hk => .inl hk)) (.inr hs2) _, by rw [← HES.out]; exact mapL_set hgm _ _, .inr ⟨rfl, hs2⟩⟩, (hne b (by omega)).trans HB1.out⟩
  refine (hne g (blk_lt GD.out)).trans ((Hu1.out.block g (blk_lt GD.out) (fun e => ?_)).trans GD.out)
  have := GG.out
  omega
end Go.Proofs.YtmnnhfinmjaccaaDoor
namespace Go.Proofs.YtmnnhfinmjaccaaDoor
open Go.RowKit Go.Maps
open Go.ChangeMaps (setBlock)
set_option linter.unusedVariables false
set_option maxRecDepth 100000 in
set_option maxHeartbeats 400000 in
theorem gver_err (A : Nat → Addr) (w : World) (b k : Nat) (id dom : ByteArray) (vm vs : Value)
    (HR : Calls Tryd.prog 33 #[.pointer (some ⟨b, 0, none⟩), .string id, .string dom, vm] w fun e w' => e = .returned (.tuple #[.slice none 0 0, errV A k]) ∧ w.grownBy w' none) :
    Calls Tryd.prog 21 #[.pointer (some ⟨b, 0, none⟩), .string id, .string dom, vm, vs] w fun e w' => e = .returned (errV A k) ∧ w.grownBy w' none := by
  have HR := Lib.hid HR
  go_enter Tryd.func21, Tryd.ntmps21
  go_wp2_with (go_at_call 33; refine HR.out.mono ?_; rintro e w2 ⟨rfl, hg2⟩; have G2 := Lib.hid hg2; clear hg2)
  go_ret
  exact ⟨rfl, G2.out⟩
set_option maxRecDepth 100000 in
set_option maxHeartbeats 1000000 in
theorem gver_ok (A : Nat → Addr) (w : World) (b : Nat) (mb : Option Nat) (ov : Value) (s : Rg) (d sg : List Nat) (id dom : ByteArray) (va sa : Option Addr) (vc sc : Nat) (m : List Nat) (hs : GoodG s) (hm : MapO w mb (s.bk.map bookP)) (hb : w.heap[b]? = some (.cells #[ov, .map mb] 83 (0, 0)))
    (hB : Bytes w (.slice va m.length vc) m) (hS : Bytes w (.slice sa sg.length sc) sg) (h1 : id.size ≤ 1000) (h2 : dom.size ≤ 1000) (h3 : m.length ≤ 100000) (h4 : sg.length ≤ 1152921504606846976) (hd : d.length = 32) (hd8 : ∀ x ∈ d, x < 256) (hE : AllErrs w A)
    (HR : Calls Tryd.prog 33 #[.pointer (some ⟨b, 0, none⟩), .string id, .string dom, .slice va m.length vc] w fun e w' => w.grownBy w' none ∧ ∃ g, e = .returned (.tuple #[.slice (some ⟨g, 0, none⟩) 32 32, .nilIface]) ∧ w.heap.size ≤ g ∧ w'.heap[g]? = some (.cells (bytesV d) 64 (0, 0))) :
    Calls Tryd.prog 21 #[.pointer (some ⟨b, 0, none⟩), .string id, .string dom, .slice va m.length vc, .slice sa sg.length sc] w fun e w' => e = .returned (if d = sg ∧ (id, dom, strOf m) ∈ s.bk then .nilIface else errV A 12) ∧ w.grownBy w' none := by
  have HR := Lib.hid HR
  have HBB := Lib.hid hb
  obtain ⟨M, hM⟩ : ∃ M, M = strOf m := ⟨_, rfl⟩
  have hMs : M.size ≤ 100000 := by rw [hM, strOf_size]; exact h3
  have e12 := errs_at hE 12 (by decide)
  have HL12 := hE.lt 11 (by decide)
  simp only [errVars, List.getD_cons_zero, List.getD_cons_succ, Nat.add_one_sub_one] at e12 HL12
  have HE12 : Hid (∀ W, w.grownBy W none → W.cell? ⟨11, 0, none⟩ = some (errV A 12)) := Lib.hid (fun W hW => by rw [World.cell?_of_block (hW.block _ HL12 (by simp))]; exact e12)
  have HLk : Hid (∀ W, w.grownBy W none → (Instr.lookup 81 (.map mb) (.agg #[.string id, .string dom, .string M]) false).run Tryd.prog W = .ok (.bool (decide ((id, dom, M) ∈ s.bk))) W) := Lib.hid (fun W hW =>
    bk_look hs (hm.of (fun k hk => hW.block k (by subst hk; exact MapL.lt hm) (by simp))) id dom M h1 h2 hMs)
  have HCV : Hid (∀ W, w.grownBy W none → (convert 22 9 (.slice va m.length vc)).run Tryd.prog W = .ok (.string M) W) := Lib.hid (fun W hW => by rw [hM]; exact conv_bytes (hB.grown hW) _ 5 _ Tryd.underlying22 Tryd.underlying5 Tryd.underlying9)
  have HSm : Hid (∀ W g, w.grownBy W none → W.heap[g]? = some (.cells (bytesV d) 64 (0, 0)) → Calls Tryd.prog 34 #[.slice (some ⟨g, 0, none⟩) 32 32, .slice sa sg.length sc] W fun e w' => e = .returned (.bool (decide (d = sg))) ∧ ∃ m, w' = W.drewN m) := Lib.hid (fun W g hg hx => by
    have hBd := row_bytes hd8 hx
    rw [hd] at hBd
    exact same_any _ _ d sg W hBd (hS.grown hg) (by omega) h4)
  rw [← hM]
  obtain ⟨q1, hq1⟩ : ∃ q, q = decide (d = sg) := ⟨_, rfl⟩
  obtain ⟨q2, hq2⟩ : ∃ q, q = decide ((id, dom, M) ∈ s.bk) := ⟨_, rfl⟩
  have hP : (if d = sg ∧ (id, dom, M) ∈ s.bk then Value.nilIface else errV A 12) = if q1 = true ∧ q2 = true then Value.nilIface else errV A 12 := by
    rw [hq1, hq2]; simp only [decide_eq_true_eq]
  rw [hP]
  rw [← hq1] at HSm
  rw [← hq2] at HLk
  clear hP hq1 hq2 hb hM hMs hs hm hB hS h1 h2 h3 h4 hd hd8 hE e12 HL12
  generalize m.length = ml at *
  generalize sg.length = sl at *
  generalize bytesV d = D at *
  cases q1
  · rw [if_neg (by simp)]
    go_enter Tryd.func21, Tryd.ntmps21
    go_wp2_with (go_at_call 33; refine HR.out.mono ?_; rintro e w2 ⟨hg2, g, rfl, hgg, hgd⟩; have G2 := Lib.hid hg2; have GG := Lib.hid hgg; have GD := Lib.hid hgd; clear hg2 hgg hgd)
    refine wp_region_quiet_tail (fun w' => ∃ n, w' = w2.drewN n) 16 (by kernel_rfl) (by kernel_rfl) ⟨1, rfl⟩ ?_
    simp only [List.take_succ_cons, List.take_zero, List.drop_succ_cons, List.drop_zero]
    iterate 2 (go_big_quiet_step (fail))
    refine wpQuiet_call (by rfl) 34 #[.slice (some ⟨g, 0, none⟩) 32 32, .slice sa sl sc] (.bool false) (fun _ => by simp [go_sem]) (fun w' hw' => by
      obtain ⟨n, rfl⟩ := hw'
      exact (HSm.out (w2.drewN n) g (grown_drewN G2.out n) GD.out).mono (fun e w'' h => ⟨h.1, by obtain ⟨k, hk⟩ := h.2; exact ⟨n + k, by rw [hk]; simp [World.drewN, Nat.add_assoc]⟩⟩)) ?_
    simp only [Act.put, List.setIfInBounds_toArray, List.set_cons_succ, List.set_cons_zero]
    repeat (go_big_quiet_step (fail))
    refine wpQuiet_nil ?_
    rintro _ ⟨n3, rfl⟩
    have e12 := HE12.out _ (grown_drewN G2.out n3)
    go_wp2
    go_ret
    exact ⟨rfl, grown_drewN G2.out _⟩
  · obtain ⟨R, hR⟩ : ∃ R, R = if true = true ∧ q2 = true then Value.nilIface else errV A 12 := ⟨_, rfl⟩
    rw [← hR]
    have HRR := Lib.hid hR
    clear hR
    go_enter Tryd.func21, Tryd.ntmps21
    go_wp2_with (go_at_call 33; refine HR.out.mono ?_; rintro e w2 ⟨hg2, g, rfl, hgg, hgd⟩; have G2 := Lib.hid hg2; have GG := Lib.hid hgg; have GD := Lib.hid hgd; have c1 : w2.cell? ⟨b, 1, none⟩ = some (.map mb) := (by rw [World.cell?_of_block (hg2.block b (blk_lt HBB.out) (by simp))]; exact cell_blk HBB.out 1 rfl); have cv : ∀ q, (convert 22 9 (.slice va ml vc)).run Tryd.prog (w2.drewN q) = .ok (.string M) (w2.drewN q) := (fun q => HCV.out _ (grown_drewN G2.out q)); have lk : ∀ q, (Instr.lookup 81 (.map mb) (.agg #[.string id, .string dom, .string M]) false).run Tryd.prog (w2.drewN q) = .ok (.bool q2) (w2.drewN q) := (fun q => HLk.out _ (grown_drewN G2.out q)); clear hg2 hgg hgd)
    refine wp_region_quiet_tail (fun w' => ∃ n, w' = w2.drewN n) 16 (by kernel_rfl) (by kernel_rfl) ⟨1, rfl⟩ ?_
    simp only [List.take_succ_cons, List.take_zero, List.drop_succ_cons, List.drop_zero]
    iterate 2 (go_big_quiet_step (fail))
    refine wpQuiet_call (by rfl) 34 #[.slice (some ⟨g, 0, none⟩) 32 32, .slice sa sl sc] (.bool true) (fun _ => by simp [go_sem]) (fun w' hw' => by
      obtain ⟨n, rfl⟩ := hw'
      exact (HSm.out (w2.drewN n) g (grown_drewN G2.out n) GD.out).mono (fun e w'' h => ⟨h.1, by obtain ⟨k, hk⟩ := h.2; exact ⟨n + k, by rw [hk]; simp [World.drewN, Nat.add_assoc]⟩⟩)) ?_
    simp only [Act.put, List.setIfInBounds_toArray, List.set_cons_succ, List.set_cons_zero]
    repeat (go_big_quiet_step (fail))
    refine wpQuiet_nil ?_
    rintro _ ⟨n3, rfl⟩
    have e12 := HE12.out _ (grown_drewN G2.out n3)
    cases q2
    · go_wp2
      go_ret
      exact ⟨by rw [HRR.out]; simp, grown_drewN G2.out _⟩
    · go_wp2
      go_ret
      exact ⟨by rw [HRR.out]; simp, grown_drewN G2.out _⟩
end Go.Proofs.YtmnnhfinmjaccaaDoor
