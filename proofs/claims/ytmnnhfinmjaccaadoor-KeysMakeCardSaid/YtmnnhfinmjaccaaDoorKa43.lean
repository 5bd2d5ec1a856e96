import Derived.Test.YtmnnhfinmjaccaaDoorKa42
namespace Go.Proofs.YtmnnhfinmjaccaaDoor
open Go.RowKit Go.Maps
open Go.ChangeMaps (setBlock)
set_option linter.unusedVariables false
set_option maxRecDepth 100000 in
set_option maxHeartbeats 400000 in
theorem gver_err (A : Nat → Addr) (w : World) (b k : Nat) (id dom : ByteArray) (vm vs : Value)
    (HR : Calls Tryd.prog 33 #[.pointer (some ⟨b, 0, none⟩), .string id, .string dom, vm] w fun e w' => e = .returned (.tuple #[.slice none 0 0, errV A k]) ∧ w.grownBy w' none) :
    Calls Tryd.prog 21 #[.pointer (some ⟨b, 0, none⟩), .string id, .string dom, vm, vs] w fun e w' => e = .returned (errV A k) ∧ w.grownBy w' none := by
  have HR := Lib.hid HR
  go_enter Tryd.func21, Tryd.ntmps21
  go_wp2_with (go_at_call 33; refine HR.out.mono ?_; rintro e w2 ⟨rfl, hg2⟩; have G2 := Lib.hid hg2; clear hg2)
  go_ret
  exact ⟨rfl, G2.out⟩
set_option maxRecDepth 100000 in
set_option maxHeartbeats 1000000 in
theorem gver_ok (A : Nat → Addr) (w : World) (b : Nat) (mb : Option Nat) (ov : Value) (s : Rg) (d sg : List Nat) (id dom : ByteArray) (va sa : Option Addr) (vc sc : Nat) (m : List Nat) (hs : GoodG s) (hm : MapO w mb (s.bk.map bookP)) (hb : w.heap[b]? = some (.cells #[ov, .map mb] 83 (0, 0)))
    (hB : Bytes w (.slice va m.length vc) m) (hS : Bytes w (.slice sa sg.length sc) sg) (h1 : id.size ≤ 1000) (h2 : dom.size ≤ 1000) (h3 : m.length ≤ 100000) (h4 : sg.length ≤ 1152921504606846976) (hd : d.length = 32) (hd8 : ∀ x ∈ d, x < 256) (hE : AllErrs w A)
    (HR : Calls Tryd.prog 33 #[.pointer (some ⟨b, 0, none⟩), .string id, .string dom, .slice va m.length vc] w fun e w' => w.grownBy w' none ∧ ∃ g, e = .returned (.tuple #[.slice (some ⟨g, 0, none⟩) 32 32, .nilIface]) ∧ w.heap.size ≤ g ∧ w'.heap[g]? = some (.cells (bytesV d) 64 (0, 0))) :
    Calls Tryd.prog 21 #[.pointer (some ⟨b, 0, none⟩), .string id, .string dom, .slice va m.length vc, .slice sa sg.length sc] w fun e w' => e = .returned (if d = sg ∧ (id, dom, strOf m) ∈ s.bk then .nilIface else errV A 12) ∧ w.grownBy w' none := by
  have HR := Lib.hid HR
  have HBB := Lib.hid hb
  obtain ⟨M, hM⟩ : ∃ M, M = strOf m := ⟨_, rfl⟩
  have hMs : M.size ≤ 100000 := by rw [hM, strOf_size]; exact h3
  have e12 := errs_at hE 12 (by decide)
  have HL12 := hE.lt 11 (by decide)
  simp only [errVars, List.getD_cons_zero, List.getD_cons_succ, Nat.add_one_sub_one] at e12 HL12
  have HE12 : Hid (∀ W, w.grownBy W none → W.cell? ⟨11, 0, none⟩ = some (errV A 12)) := Lib.hid (fun W hW => by rw [World.cell?_of_block (hW.block _ HL12 (by simp))]; exact e12)
  have HLk : Hid (∀ W, w.grownBy W none → (Instr.lookup 81 (.map mb) (.agg #[.string id, .string dom, .string M]) false).run Tryd.prog W = .ok (.bool (decide ((id, dom, M) ∈ s.bk))) W) := Lib.hid (fun W hW =>
    bk_look hs (hm.of (fun k hk => hW.block k (by subst hk; exact MapL.lt hm) (by simp))) id dom M h1 h2 hMs)
  have HCV : Hid (∀ W, w.grownBy W none → (convert 22 9 (.slice va m.length vc)).run Tryd.prog W = .ok (.string M) W) := Lib.hid (fun W hW => by rw [hM]; exact conv_bytes (hB.grown hW) _ 5 _ Tryd.underlying22 Tryd.underlying5 Tryd.underlying9)
  have HSm : Hid (∀ W g, w.grownBy W none → W.heap[g]? = some (.cells (bytesV d) 64 (0, 0)) → Calls Tryd.prog 34 #[.slice (some ⟨g, 0, none⟩) 32 32, .slice sa sg.length sc] W fun e w' => e = .returned (.bool (decide (d = sg))) ∧ ∃ m, w' = W.drewN m) := Lib.hid (fun W g hg hx => by
    have hBd := row_bytes hd8 hx
    rw [hd] at hBd
    exact same_any _ _ d sg W hBd (hS.grown hg) (by omega) h4)
  rw [← hM]
  obtain ⟨q1, hq1⟩ : ∃ q, q = decide (d = sg) := ⟨_, rfl⟩
  obtain ⟨q2, hq2⟩ : ∃ q, q = decide ((id, dom, M) ∈ s.bk) := ⟨_, rfl⟩
  have hP : (if d = sg ∧ (id, dom, M) ∈ s.bk then Value.nilIface else errV A 12) = if q1 = true ∧ q2 = true then Value.nilIface else errV A 12 := by
    rw [hq1, hq2]; simp only [decide_eq_true_eq]
  rw [hP]
  rw [← hq1] at HSm
  rw [← hq2] at HLk
  clear hP hq1 hq2 hb hM hMs hs hm hB hS h1 h2 h3 h4 hd hd8 hE e12 HL12
  generalize m.length = ml at *
  generalize sg.length = sl at *
  generalize bytesV d = D at *
  cases q1
  · rw [if_neg (by simp)]
    go_enter Tryd.func21, Tryd.ntmps21
    go_wp2_with (go_at_call 33; refine HR.out.mono ?_; rintro e w2 ⟨hg2, g, rfl, hgg, hgd⟩; have G2 := Lib.hid hg2; have GG := Lib.hid hgg; have GD := Lib.hid hgd; clear hg2 hgg hgd)
    refine wp_region_quiet_tail (fun w' => ∃ n, w' = w2.drewN n) 16 (by kernel_rfl) (by kernel_rfl) ⟨1, rfl⟩ ?_
    simp only [List.take_succ_cons, List.take_zero, List.drop_succ_cons, List.drop_zero]
    iterate 2 (go_big_quiet_step (fail))
    refine wpQuiet_call (by rfl) 34 #[.slice (some ⟨g, 0, none⟩) 32 32, .slice sa sl sc] (.bool false) (fun _ => by simp [go_sem]) (fun w' hw' => by
      obtain ⟨n, rfl⟩ := hw'
      exact (HSm.out (w2.drewN n) g (grown_drewN G2.out n) GD.out).mono (fun e w'' h => ⟨h.1, by obtain ⟨k, hk⟩ := h.2; exact ⟨n + k, by rw [hk]; simp [World.drewN, Nat.add_assoc]⟩⟩)) ?_
    simp only [Act.put, List.setIfInBounds_toArray, List.set_cons_succ, List.set_cons_zero]
    repeat (go_big_quiet_step (fail))
    refine wpQuiet_nil ?_
    rintro _ ⟨n3, rfl⟩
    have e12 := HE12.out _ (grown_drewN G2.out n3)
    go_wp2
    go_ret
    exact ⟨rfl, grown_drewN G2.out _⟩
  · obtain ⟨R, hR⟩ : ∃ R, R = if true = true ∧ q2 = true then Value.nilIface else errV A 12 := ⟨_, rfl⟩
    rw [← hR]
    have HRR := Lib.hid hR
    clear hR
    go_enter Tryd.func21, Tryd.ntmps21
    go_wp2_with (go_at_call 33; refine HR.out.mono ?_; rintro e w2 ⟨hg2, g, rfl, hgg, hgd⟩; have G2 := Lib.hid hg2; have GG := Lib.hid hgg; have GD := Lib.hid hgd; have c1 : w2.cell? ⟨b, 1, none⟩ = some (.map mb) := (by rw [World.cell?_of_block (hg2.block b (blk_lt HBB.out) (by simp))]; exact cell_blk HBB.out 1 rfl); have cv : ∀ q, (convert 22 9 (.slice va ml vc)).run Tryd.prog (w2.drewN q) = .ok (.string M) (w2.drewN q) := (fun q => HCV.out _ (grown_drewN G2.out q)); have lk : ∀ q, (Instr.lookup 81 (.map mb) (.agg #[.string id, .string dom, .string M]) false).run Tryd.prog (w2.drewN q) = .ok (.bool q2) (w2.drewN q) := (fun q => HLk.out _ (grown_drewN G2.out q)); clear hg2 hgg hgd)
    refine wp_region_quiet_tail (fun w' => ∃ n, w' = w2.drewN n) 16 (by kernel_rfl) (by kernel_rfl) ⟨1, rfl⟩ ?_
    simp only [List.take_succ_cons, List.take_zero, List.drop_succ_cons, List.drop_zero]
    iterate 2 (go_big_quiet_step (fail))
    refine wpQuiet_call (by rfl) 34 #[.slice (some ⟨g, 0, none⟩) 32 32, .slice sa sl sc] (.bool true) (fun _ => by simp [go_sem]) (fun w' hw' => by
      obtain ⟨n, rfl⟩ := hw'
      exact (HSm.out (w2.drewN n) g (grown_drewN G2.out n) GD.out).mono (fun e w'' h => ⟨h.1, by obtain ⟨k, hk⟩ := h.2; exact ⟨n + k, by rw [hk]; simp [World.drewN, Nat.add_assoc]⟩⟩)) ?_
    simp only [Act.put, List.setIfInBounds_toArray, List.set_cons_succ, List.set_cons_zero]
    repeat (go_big_quiet_step (fail))
    refine wpQuiet_nil ?_
    rintro _ ⟨n3, rfl⟩
    have e12 := HE12.out _ (grown_drewN G2.out n3)
    cases q2
    · go_wp2
      go_ret
      exact ⟨by rw [HRR.out]; simp, grown_drewN G2.out _⟩
    · go_wp2
      go_ret
      exact ⟨by rw [HRR.out]; simp, grown_drewN G2.out _⟩
end Go.Proofs.YtmnnhfinmjaccaaDoor
