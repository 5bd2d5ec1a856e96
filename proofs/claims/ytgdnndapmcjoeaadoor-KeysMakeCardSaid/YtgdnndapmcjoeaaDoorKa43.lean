import Derived.Test.YtgdnndapmcjoeaaDoorKa42
namespace Go.Proofs.YtgdnndapmcjoeaaDoor
open Go.RowKit Go.Maps
open Go.ChangeMaps (setBlock)
set_option linter.unusedVariables false
/-- A whole row read, guarded. -/
theorem wpQuiet_load_midG {P : Program} {ops : Array Oper} {C : World → Prop} {Q : Act → Prop} {a : Act} {o : Oper} {rest : List Oper} (hw : Region.wanted o (yielded ops a.tmps) = true) (ty : TypeId) (x : Operand) (ho : o.op = .load ty x)
    (b off : Nat) (hx : a.eval x = .pointer (some ⟨b, off, none⟩)) (cs : List Value) (d : TypeDesc) (hC : ∀ w, C w → w.rangeAt b off cs)
    (hu : P.underlying ty = some d) (hd : d.isRow = true) (hi : (P.info? ty).map (·.size) = some cs.length)
    (h : wpQuiet P ops C Q rest (a.put o.dst (.agg cs.toArray))) : wpQuiet P ops C Q (o :: rest) a :=
  wpQuiet_step fun K hK => by
    rw [if_pos hw]
    refine ⟨_, fun w hw => ?_, hK _ h⟩
    unfold Oper.quietAt execOp
    simp only [ho, hx, Instr.loadAt, Instr.sureAddr, Sem.run_bind, Sem.run_pure, Result.andThen_ok, run_loadVar_mid w b off ty cs d (hC w hw) hu hd hi]
    exact ⟨rfl, rfl⟩
set_option maxRecDepth 100000 in
set_option maxHeartbeats 400000 in
theorem gver_err (A : Nat → Addr) (w : World) (b k : Nat) (id dom : ByteArray) (vm vs : Value)
    (HR : Calls Tryd.prog 33 #[.pointer (some ⟨b, 0, none⟩), .string id, .string dom, vm] w fun e w' => e = .returned (.tuple #[.agg zEnt, .slice none 0 0, errV A k]) ∧ w.grownBy w' none) :
    Calls Tryd.prog 21 #[.pointer (some ⟨b, 0, none⟩), .string id, .string dom, vm, vs] w fun e w' => e = .returned (errV A k) ∧ w.grownBy w' none := by
  obtain ⟨Z, hZ⟩ : ∃ Z, Z = zEnt := ⟨_, rfl⟩
  have hz := zEnt_at
  rw [← hZ] at hz HR
  have HZi : Hid ((Tryd.prog.info? 86).map (·.size) = some Z.size) := Lib.hid (by rw [hZ]; exact entI rfl)
  have HZo : Hid (Z.all (·.oneCell') = true) := Lib.hid (by rw [hZ]; exact zEnt_one)
  have HR := Lib.hid HR
  clear hZ
  go_enter Tryd.func21, Tryd.ntmps21
  go_wp2_with (first
    | (go_at_call 33; refine HR.out.mono ?_; rintro e w2 ⟨rfl, hg2⟩; have G2 := Lib.hid hg2; clear hg2)
    | (refine wpList_store_row (by rfl) 86 (.tmp 11) (.tmp 20) (by rfl) w2.heap.size Z (by rfl) (by rfl) _ _ (alloc_at w2 _) HZi.out rfl HZo.out ?_; have G3 : Hid (w.grownBy ((w2.alloc (.cells Z 86)).setRow w2.heap.size Z) none) := Lib.hid (grown_setRow (grown_alloc G2.out _) G2.out.size _)))
  go_ret
  exact ⟨rfl, G3.out⟩
set_option maxRecDepth 100000 in
set_option maxHeartbeats 1000000 in
theorem gver_ok (A : Nat → Addr) (w : World) (b : Nat) (mb : Option Nat) (ov : Value) (s : Rg) (d sg k : List Nat) (id dom : ByteArray) (va sa : Option Addr) (vc sc : Nat) (m : List Nat) (hs : GoodG s) (hm : MapO w mb (s.bk.map (bookP s))) (hb : w.heap[b]? = some (.cells #[ov, .map mb] 83 (0, 0)))
    (hgt : s.get id = some k) (hS : Bytes w (.slice sa sg.length sc) sg) (h2 : dom.size ≤ 1000) (h3 : m.length ≤ 100000) (h4 : sg.length ≤ 1152921504606846976) (hd : d.length = 32) (hd8 : ∀ x ∈ d, x < 256) (hE : AllErrs w A)
    (HR : Calls Tryd.prog 33 #[.pointer (some ⟨b, 0, none⟩), .string id, .string dom, .slice va m.length vc] w fun e w' => w.grownBy w' none ∧ ∃ g, e = .returned (.tuple #[.agg (entA k dom (strOf m)), .slice (some ⟨g, 0, none⟩) 32 32, .nilIface]) ∧ w.heap.size ≤ g ∧ w'.heap[g]? = some (.cells (bytesV d) 64 (0, 0))) :
    Calls Tryd.prog 21 #[.pointer (some ⟨b, 0, none⟩), .string id, .string dom, .slice va m.length vc, .slice sa sg.length sc] w fun e w' => e = .returned (if d = sg ∧ (id, dom, strOf m) ∈ s.bk then .nilIface else errV A 12) ∧ w.grownBy w' none := by
  have HBB := Lib.hid hb
  obtain ⟨M, hM⟩ : ∃ M, M = strOf m := ⟨_, rfl⟩
  have hMs : M.size ≤ 100000 := by rw [hM, strOf_size]; exact h3
  obtain ⟨X, hX⟩ : ∃ X, X = entA k dom M := ⟨_, rfl⟩
  have hX34 : X.size = 34 := by rw [hX]; exact entA_size (hs.got hgt).2.1 _ _
  have HXi : Hid ((Tryd.prog.info? 86).map (·.size) = some X.size) := Lib.hid (entI hX34)
  have HXo : Hid (X.all (·.oneCell') = true) := Lib.hid (by rw [hX]; exact entA_one _ _ _)
  obtain ⟨Z, hZ⟩ : ∃ Z, Z = zEnt := ⟨_, rfl⟩
  have hz := zEnt_at
  rw [← hZ] at hz
  have HZX : Hid (Z.size = X.size) := Lib.hid (by rw [hX34, hZ]; rfl)
  have HXl : Hid ((Tryd.prog.info? 86).map (·.size) = some X.toList.length) := Lib.hid (by rw [Array.length_toList]; exact HXi.out)
  rw [← hM, ← hX] at HR
  have HR := Lib.hid HR
  have e12 := errs_at hE 12 (by decide)
  have HL12 := hE.lt 11 (by decide)
  simp only [errVars, List.getD_cons_zero, List.getD_cons_succ, Nat.add_one_sub_one] at e12 HL12
  have HE12 : Hid (∀ W, w.grownBy W none → W.cell? ⟨11, 0, none⟩ = some (errV A 12)) := Lib.hid (fun W hW => by rw [World.cell?_of_block (hW.block _ HL12 (by simp))]; exact e12)
  have HLk : Hid (∀ W, w.grownBy W none → (Instr.lookup 81 (.map mb) (.agg X) false).run Tryd.prog W = .ok (.bool (decide ((id, dom, M) ∈ s.bk))) W) := Lib.hid (fun W hW => by
    rw [hX]
    exact bk_look hs (hm.of (fun q hk => hW.block q (by subst hk; exact MapL.lt hm) (by simp))) id dom M k hgt h2 hMs)
  have HSm : Hid (∀ W g, w.grownBy W none → W.heap[g]? = some (.cells (bytesV d) 64 (0, 0)) → Calls Tryd.prog 34 #[.slice (some ⟨g, 0, none⟩) 32 32, .slice sa sg.length sc] W fun e w' => e = .returned (.bool (decide (d = sg))) ∧ ∃ m, w' = W.drewN m) := Lib.hid (fun W g hg hx => by
    have hBd := row_bytes hd8 hx
    rw [hd] at hBd
    exact same_any _ _ d sg W hBd (hS.grown hg) (by omega) h4)
  rw [← hM]
  obtain ⟨q1, hq1⟩ : ∃ q, q = decide (d = sg) := ⟨_, rfl⟩
  obtain ⟨q2, hq2⟩ : ∃ q, q = decide ((id, dom, M) ∈ s.bk) := ⟨_, rfl⟩
  have hP : (if d = sg ∧ (id, dom, M) ∈ s.bk then Value.nilIface else errV A 12) = if q1 = true ∧ q2 = true then Value.nilIface else errV A 12 := by
    rw [hq1, hq2]; simp only [decide_eq_true_eq]
  rw [hP]
  rw [← hq1] at HSm
  rw [← hq2] at HLk
  clear hP hq1 hq2 hb hM hMs hs hm hS h2 h3 h4 hd hd8 hE e12 HL12 hX hX34 hZ hgt
  generalize m.length = ml at *
  generalize sg.length = sl at *
  generalize bytesV d = D at *
  cases q1
  · rw [if_neg (by simp)]
    go_enter Tryd.func21, Tryd.ntmps21
    go_wp2_with (first
      | (go_at_call 33; refine HR.out.mono ?_; rintro e w2 ⟨hg2, g, rfl, hgg, hgd⟩; have G2 := Lib.hid hg2; have GG := Lib.hid hgg; have GD := Lib.hid hgd; clear hg2 hgg hgd)
      | (refine wpList_store_row (by rfl) 86 (.tmp 11) (.tmp 20) (by rfl) w2.heap.size X (by rfl) (by rfl) _ _ (alloc_at w2 _) HXi.out HZX.out HXo.out ?_; obtain ⟨w3, hw3⟩ : ∃ w3, w3 = (w2.alloc (.cells Z 86)).setRow w2.heap.size X := ⟨_, rfl⟩; rw [← hw3]; have g3 : w2.grownBy w3 none := (by rw [hw3]; exact grown_setRow (World.grownBy_alloc _ _ _) (Nat.le_refl _) _); have x3 : Hid (w3.heap[w2.heap.size]? = some (.cells X 86 (0, 0))) := Lib.hid (by rw [hw3]; exact setRow_heap _ _ _ _ _ _ (alloc_at w2 _)); have G3 := Lib.hid (grown_trans G2.out g3); have D3 := Lib.hid ((g3.block _ (blk_lt GD.out) (by simp)).trans GD.out); clear g3 hw3))
    refine wp_region_quiet_tail (fun w' => ∃ n, w' = w3.drewN n) 12 (by kernel_rfl) (by kernel_rfl) ⟨1, rfl⟩ ?_
    simp only [List.take_succ_cons, List.take_zero, List.drop_succ_cons, List.drop_zero]
    iterate 2 (go_big_quiet_step (fail))
    refine wpQuiet_call (by rfl) 34 #[.slice (some ⟨g, 0, none⟩) 32 32, .slice sa sl sc] (.bool false) (fun _ => by simp [go_sem]) (fun w' hw' => by
      obtain ⟨n, rfl⟩ := hw'
      exact (HSm.out (w3.drewN n) g (grown_drewN G3.out n) D3.out).mono (fun e w'' h => ⟨h.1, by obtain ⟨k, hk⟩ := h.2; exact ⟨n + k, by rw [hk]; simp [World.drewN, Nat.add_assoc]⟩⟩)) ?_
    simp only [Act.put, List.setIfInBounds_toArray, List.set_cons_succ, List.set_cons_zero]
    repeat (go_big_quiet_step (fail))
    refine wpQuiet_nil ?_
    rintro _ ⟨n3, rfl⟩
    have e12 := HE12.out _ (grown_drewN G3.out n3)
    go_wp2
    go_ret
    exact ⟨rfl, grown_drewN G3.out _⟩
  · obtain ⟨R, hR⟩ : ∃ R, R = if true = true ∧ q2 = true then Value.nilIface else errV A 12 := ⟨_, rfl⟩
    rw [← hR]
    have HRR := Lib.hid hR
    clear hR
    go_enter Tryd.func21, Tryd.ntmps21
    go_wp2_with (first
      | (go_at_call 33; refine HR.out.mono ?_; rintro e w2 ⟨hg2, g, rfl, hgg, hgd⟩; have G2 := Lib.hid hg2; have GG := Lib.hid hgg; have GD := Lib.hid hgd; clear hg2 hgg hgd)
      | (refine wpList_store_row (by rfl) 86 (.tmp 11) (.tmp 20) (by rfl) w2.heap.size X (by rfl) (by rfl) _ _ (alloc_at w2 _) HXi.out HZX.out HXo.out ?_; obtain ⟨w3, hw3⟩ : ∃ w3, w3 = (w2.alloc (.cells Z 86)).setRow w2.heap.size X := ⟨_, rfl⟩; rw [← hw3]; have g3 : w2.grownBy w3 none := (by rw [hw3]; exact grown_setRow (World.grownBy_alloc _ _ _) (Nat.le_refl _) _); have x3 : Hid (w3.heap[w2.heap.size]? = some (.cells X 86 (0, 0))) := Lib.hid (by rw [hw3]; exact setRow_heap _ _ _ _ _ _ (alloc_at w2 _)); have G3 := Lib.hid (grown_trans G2.out g3); have D3 := Lib.hid ((g3.block _ (blk_lt GD.out) (by simp)).trans GD.out); clear g3 hw3))
    have c1 : w3.cell? ⟨b, 1, none⟩ = some (.map mb) := by rw [World.cell?_of_block (G3.out.block b (blk_lt HBB.out) (by simp))]; exact cell_blk HBB.out 1 rfl
    have lk : ∀ q, (Instr.lookup 81 (.map mb) (.agg X) false).run Tryd.prog (w3.drewN q) = .ok (.bool q2) (w3.drewN q) := fun q => HLk.out _ (grown_drewN G3.out q)
    refine wp_region_quiet_tail (fun w' => ∃ n, w' = w3.drewN n) 12 (by kernel_rfl) (by kernel_rfl) ⟨1, rfl⟩ ?_
    simp only [List.take_succ_cons, List.take_zero, List.drop_succ_cons, List.drop_zero]
    iterate 2 (go_big_quiet_step (fail))
    refine wpQuiet_call (by rfl) 34 #[.slice (some ⟨g, 0, none⟩) 32 32, .slice sa sl sc] (.bool true) (fun _ => by simp [go_sem]) (fun w' hw' => by
      obtain ⟨n, rfl⟩ := hw'
      exact (HSm.out (w3.drewN n) g (grown_drewN G3.out n) D3.out).mono (fun e w'' h => ⟨h.1, by obtain ⟨k, hk⟩ := h.2; exact ⟨n + k, by rw [hk]; simp [World.drewN, Nat.add_assoc]⟩⟩)) ?_
    simp only [Act.put, List.setIfInBounds_toArray, List.set_cons_succ, List.set_cons_zero]
    iterate 6 (go_big_quiet_step (fail))
    refine wpQuiet_load_midG (by rfl) 86 (.tmp 11) (by rfl) w2.heap.size 0 (by rfl) X.toList _ (fun w' hw' => by
      obtain ⟨n, rfl⟩ := hw'
      exact range_all (w := w3) x3.out) Tryd.underlying86 rfl HXl.out ?_
    simp only [Act.put, List.setIfInBounds_toArray, List.set_cons_succ, List.set_cons_zero]
    repeat (go_big_quiet_step (fail))
    refine wpQuiet_nil ?_
    rintro _ ⟨n3, rfl⟩
    have e12 := HE12.out _ (grown_drewN G3.out n3)
    cases q2
    · go_wp2
      go_ret
      exact ⟨by rw [HRR.out]; simp, grown_drewN G3.out _⟩
    · go_wp2
      go_ret
      exact ⟨by rw [HRR.out]; simp, grown_drewN G3.out _⟩
end Go.Proofs.YtgdnndapmcjoeaaDoor
