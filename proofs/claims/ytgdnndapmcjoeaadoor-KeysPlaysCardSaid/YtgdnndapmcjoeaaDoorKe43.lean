import Derived.Test.YtgdnndapmcjoeaaDoorKe41
namespace Go.Proofs.YtgdnndapmcjoeaaDoor
open Go.RowKit Go.Maps
set_option linter.unusedVariables false
set_option maxRecDepth 100000 in
set_option maxHeartbeats 2000000 in
theorem do_nosign_e (A : Nat → Addr) (W0 w : World) (p b m N : Nat) (F G J : Nat → Prop) (iv tv : Value) (us : List Value) (s : Rg) (ids : List ByteArray) (told : List (List Nat)) (key old : Int) (dom : ByteArray) (va : Option Addr) (n vc : Nat) (ma : Option Addr) (ml mc : Nat) (bs msg : List Nat)
    (h : PS W0 p w.heap.size b m F G J iv tv us (acts 1 key old dom (.slice va n vc) (.slice ma ml mc)) s s ids told (w.alloc (.cells (acts 1 key old dom (.slice va n vc) (.slice ma ml mc)) 49)))
    (hE : AllErrs W0 A) (hLd : Laid W0) (hv : Bytes W0 (.slice va n vc) bs) (hv0 : Whole0 (.slice va n vc)) (hvn : bs.length = n) (hm : Bytes W0 (.slice ma ml mc) msg) (hm0 : Whole0 (.slice ma ml mc)) (hml : msg.length = ml) (hn2 : n ≤ 200) (hml2 : ml ≤ 200) (hd : dom.size ≤ 100) (hN : N ≤ 100) (hks : s.ks.length ≤ N) (hbk : s.bk.length ≤ N) (hil : ids.length ≤ N) (htl : told.length ≤ N) (hi0 : ids.length = 0) (hre : recE s (idOf ids key) dom msg ≠ 0) :
    Calls Tryd.prog 15 #[.pointer (some ⟨p, 0, none⟩), .agg (acts 1 key old dom (.slice va n vc) (.slice ma ml mc))] w fun e w' => DoOut W0 p w.heap.size (acts 1 key old dom (.slice va n vc) (.slice ma ml mc)) N e w' := by
  obtain ⟨w1, hw1⟩ : ∃ w1, w1 = w.alloc (.cells (acts 1 key old dom (.slice va n vc) (.slice ma ml mc)) 49) := ⟨_, rfl⟩
  have HW1 := Lib.hid hw1
  rw [← hw1] at h
  have HH := Lib.hid h
  have HE := Lib.hid hE
  have HLd := Lib.hid hLd
  have HV := Lib.hid hv
  have HV0 := Lib.hid hv0
  have HVn := Lib.hid hvn
  have HM := Lib.hid hm
  have HM0 := Lib.hid hm0
  have HMl := Lib.hid hml
  have HN := Lib.hid (show N ≤ 100 ∧ s.ks.length ≤ N ∧ s.bk.length ≤ N ∧ ids.length ≤ N ∧ told.length ≤ N ∧ n ≤ 200 ∧ ml ≤ 200 ∧ dom.size ≤ 100 from ⟨hN, hks, hbk, hil, htl, hn2, hml2, hd⟩)
  have HC : Hid (∀ W : World, W.heap[w.heap.size]? = some (.cells (acts 1 key old dom (.slice va n vc) (.slice ma ml mc)) 49 (0, 0)) → W.cell? ⟨w.heap.size, 0, none⟩ = some (.int .i64 1) ∧ W.cell? ⟨w.heap.size, 1, none⟩ = some (.int .i64 key) ∧ W.cell? ⟨w.heap.size, 2, none⟩ = some (.int .i64 old) ∧ W.cell? ⟨w.heap.size, 3, none⟩ = some (.string dom) ∧ W.cell? ⟨w.heap.size, 4, none⟩ = some (.slice va n vc) ∧ W.cell? ⟨w.heap.size, 5, none⟩ = some (.slice ma ml mc)) := Lib.hid (fun W hW => ⟨cell_blk hW 0 rfl, cell_blk hW 1 rfl, cell_blk hW 2 rfl, cell_blk hW 3 rfl, cell_blk hW 4 rfl, cell_blk hW 5 rfl⟩)
  have hidz := idOf_size (fun id hid => (h.kn id hid).2) key
  have HIZ : Hid ((idOf ids key).size ≤ 1000) := Lib.hid hidz
  obtain ⟨_, ia, ig, io, ic, hiv, i2, i3⟩ := h.rows.now.1
  obtain ⟨_, ta, tg, tof, tc, htv, t2, t3⟩ := h.rows.now.2.1
  subst hiv
  subst htv
  obtain ⟨R, hR⟩ : ∃ R, R = recE s (idOf ids key) dom msg := ⟨_, rfl⟩
  have HR0 : Hid (recE s (idOf ids key) dom msg = R ∧ R ≠ 0) := Lib.hid ⟨hR.symm, by rw [hR]; exact hre⟩
  have HR28 : Hid (R ≤ 28) := Lib.hid (by rw [hR]; exact recE_le _ _ _ _)
  obtain ⟨L, hL⟩ : ∃ L, L = ids.length := ⟨_, rfl⟩
  obtain ⟨TL, hTL⟩ : ∃ TL, TL = told.length := ⟨_, rfl⟩
  have HLL : Hid (L = ids.length ∧ TL = told.length) := Lib.hid ⟨hL, hTL⟩
  have HB : Hid (∀ W : World, W.heap[p]? = some (.cells #[.pointer (some ⟨b, 0, none⟩), .pointer (some ⟨m, 0, none⟩), .slice ia L ic, .slice ta TL tc] 47 (0, 0)) → W.cell? ⟨p, 0, none⟩ = some (.pointer (some ⟨b, 0, none⟩)) ∧ W.cell? ⟨p, 1, none⟩ = some (.pointer (some ⟨m, 0, none⟩)) ∧ W.cell? ⟨p, 2, none⟩ = some (.slice ia L ic) ∧ W.cell? ⟨p, 3, none⟩ = some (.slice ta TL tc)) := Lib.hid (fun W hW => ⟨cell_blk hW 0 rfl, cell_blk hW 1 rfl, cell_blk hW 2 rfl, cell_blk hW 3 rfl⟩)
  have HBW : Hid (∀ (F' G' : Nat → Prop) (sp sd : Rg) (W : World), PS W0 p w.heap.size b m F' G' J (.slice ia ids.length ic) (.slice ta told.length tc) us (acts 1 key old dom (.slice va n vc) (.slice ma ml mc)) sp sd ids told W → W.heap[p]? = some (.cells #[.pointer (some ⟨b, 0, none⟩), .pointer (some ⟨m, 0, none⟩), .slice ia L ic, .slice ta TL tc] 47 (0, 0))) := Lib.hid (fun F' G' sp sd W h => by rw [hL, hTL]; exact h.blk)
  have hblk := HBW.out _ _ _ _ _ h
  obtain ⟨hb0, hb1, hb2, hb3⟩ := HB.out _ hblk
  obtain ⟨q0, q1, q2, q3, q4, q5⟩ := HC.out _ h.cb
  have hLn : ¬ (0 : Int) < (L : Int) := by omega
  have hI : (⟨#[110, 111, 110, 101]⟩ : ByteArray) = idOf ids key := by unfold idOf; rw [if_pos hi0]
  obtain ⟨hx0, hx1, hx2', hx3, hx4, hx5⟩ := HC.out (w.alloc (.cells (acts 1 key old dom (.slice va n vc) (.slice ma ml mc)) 49)) (by rw [← hw1]; exact h.cb)
  obtain ⟨hy0, hy1, hy2, hy3⟩ := HB.out (w.alloc (.cells (acts 1 key old dom (.slice va n vc) (.slice ma ml mc)) 49)) (by rw [← hw1]; exact hblk)
  have HII := Lib.hid hI
  have HI0 := Lib.hid hi0
  have H2 := Lib.hid h
  have G2 : Hid (w1.grownBy w1 none) := Lib.hid (grown_refl _ _)
  clear hw1 h hE hLd hL hTL hI i2 hv hv0 hvn hm hm0 hml hn2 hml2 hd hN hks hbk hil htl hidz hblk hi0 hre hR t2 i3 t3
  go_enter Tryd.func15, Tryd.ntmps15
  go_wp2
  rw [← HW1.out]
  clear hx0 hx1 hx2' hx3 hx4 hx5 hy0 hy1 hy2 hy3
  obtain ⟨w2, hw2⟩ : ∃ w2, w2 = w1 := ⟨_, rfl⟩
  subst hw2
  have HSg : Hid (∀ n, Calls Tryd.prog 19 #[.pointer (some ⟨b, 0, none⟩), .string ⟨#[110, 111, 110, 101]⟩, .string dom, .slice ma ml mc] (w2.drewN n) fun e w' => e = .returned (.tuple #[.slice none 0 0, errV A R]) ∧ w2.grownBy w' none) := Lib.hid (fun n => by
    have hp := H2.out.still (grown_drewN (grown_refl w2 none) n)
    have hcall := pgSign hp.hp HE.out HLd.out (idOf ids key) dom HIZ.out (by have := HN.out; omega) ma mc msg (by have := HMl.out; have := HN.out; omega) (fun W hW => by
      rw [HMl.out]; exact HM.out.grown (hW.base hp.hp.base (fun k hk => (hp.hp.own k hk).1))) (by rw [HMl.out]; exact HM0.out)
    rw [← HII.out, HMl.out] at hcall
    refine hcall.mono ?_
    rintro e w' (⟨h1, h2, h3⟩ | ⟨h1, _⟩)
    · rw [HII.out, HR0.out.1] at h2; exact ⟨h2, grown_trans (grown_drewN (grown_refl w2 none) n) h3⟩
    · rw [HII.out, HR0.out.1] at h1; exact absurd h1 HR0.out.2)
  have HRS : Hid (∀ W, w2.grownBy W none → Calls Tryd.prog 26 #[.pointer (some ⟨m, 0, none⟩), .string ⟨#[110, 111, 110, 101]⟩, .string dom, .slice ma ml mc] W fun e w' => e = .returned (.tuple #[.slice none 0 0, .int .i64 (R : Nat)]) ∧ w2.grownBy w' none) := Lib.hid (fun W hW => by
    have hp := H2.out.still hW
    have hcall := rgSign hp.hr hp.hp.good (idOf ids key) dom (by have := HN.out; omega) ma ml mc msg (HM.out.grown hp.hr.base) HM0.out (by have := HN.out; omega) (by have := HN.out; omega)
    rw [← HII.out] at hcall
    refine hcall.mono ?_
    rintro e w' (⟨h1, h2, h3⟩ | ⟨h1, _⟩)
    · rw [HII.out, HR0.out.1] at h2; exact ⟨h2, grown_trans hW h3⟩
    · rw [HII.out, HR0.out.1] at h1; exact absurd h1 HR0.out.2)
  go_wp2
  refine go_start (by kernel_rfl) (go_seg (fun w' => ∃ n, w' = w2.drewN n) 9 (by kernel_rfl) ⟨1, rfl⟩ ?_)
  simp only [List.drop_succ_cons, List.drop_zero, Nat.sub_zero, Nat.reduceSub, List.take_succ_cons, List.take_zero]
  repeat (go_big_quiet_step (fail))
  refine wpQuiet_nil ?_
  rintro _ ⟨n3, rfl⟩
  refine go_one (by kernel_rfl) _ rfl ?_
  go_wp2_with (go_at_call 19; refine (HSg.out _).mono ?_; rintro e w3 ⟨rfl, hg3⟩; have G3 := Lib.hid hg3; clear hg3)
  refine go_seg (fun w' => ∃ n, w' = w3.drewN n) 15 (by kernel_rfl) ⟨0, rfl⟩ ?_
  simp only [List.drop_succ_cons, List.drop_zero, Nat.sub_zero, Nat.reduceSub, List.take_succ_cons, List.take_zero]
  repeat (go_big_quiet_step (fail))
  refine wpQuiet_nil ?_
  rintro _ ⟨n4, rfl⟩
  refine go_end ?_
  obtain ⟨w4, hww4⟩ : ∃ w4, w4 = w3.drewN n4 := ⟨_, rfl⟩
  rw [← hww4]
  have G4 : Hid (w2.grownBy w4 none) := Lib.hid (by rw [hww4]; exact grown_drewN G3.out _)
  have H4 := Lib.hid (H2.out.still G4.out)
  clear hww4
  clear q0 q1 q2 q3 q4 q5 hb0 hb1 hb2 hb3
  obtain ⟨q0, q1, q2, q3, q4, q5⟩ := HC.out _ H4.out.cb
  obtain ⟨hb0, hb1, hb2, hb3⟩ := HB.out _ (HBW.out _ _ _ _ _ H4.out)
  go_wp2
  refine go_start (by kernel_rfl) (go_seg (fun w' => ∃ n, w' = w4.drewN n) 9 (by kernel_rfl) ⟨1, rfl⟩ ?_)
  simp only [List.drop_succ_cons, List.drop_zero, Nat.sub_zero, Nat.reduceSub, List.take_succ_cons, List.take_zero]
  repeat (go_big_quiet_step (fail))
  refine wpQuiet_nil ?_
  rintro _ ⟨n3, rfl⟩
  refine go_one (by kernel_rfl) _ rfl ?_
  go_wp2_with (go_at_call 26; refine (HRS.out _ (grown_trans G4.out (grown_drewN (grown_refl _ _) _))).mono ?_; rintro e w5 ⟨rfl, hg5⟩; have G5 := Lib.hid hg5; clear hg5)
  refine go_seg (fun w' => ∃ n, w' = w5.drewN n) 15 (by kernel_rfl) ⟨0, rfl⟩ ?_
  simp only [List.drop_succ_cons, List.drop_zero, Nat.sub_zero, Nat.reduceSub, List.take_succ_cons, List.take_zero]
  repeat (go_big_quiet_step (fail))
  refine wpQuiet_nil ?_
  rintro _ ⟨n4, rfl⟩
  refine go_end ?_
  obtain ⟨w6, hww6⟩ : ∃ w6, w6 = w5.drewN n4 := ⟨_, rfl⟩
  rw [← hww6]
  have G6 : Hid (w2.grownBy w6 none) := Lib.hid (by rw [hww6]; exact grown_drewN G5.out _)
  have H6 := Lib.hid (H2.out.still G6.out)
  clear hww6
  clear q0 q1 q2 q3 q4 q5 hb0 hb1 hb2 hb3
  have hri : ¬ (R : Int) = 0 := by have := HR0.out.2; omega
  have cv := conv_bytes (bytes_nil w6) 22 5 9 Tryd.underlying22 Tryd.underlying5 Tryd.underlying9
  have hbe : ((strOf ([] : List Nat)).toList == (strOf ([] : List Nat)).toList) = true := beq_self_eq_true _
  have HNm : Hid (∀ W, w6.grownBy W none → Calls Tryd.prog 11 #[errV A R] W fun e w' => e = .returned (.int .i64 (R : Nat)) ∧ W.grownBy w' none) := Lib.hid (fun W hW => by
    have := num_of A R HR28.out W (HE.out.grown (grown_trans H6.out.hp.base hW))
    rw [errOf, if_neg HR0.out.2] at this
    exact this)
  go_wp2_with (go_at_call 11; refine (HNm.out _ (grown_refl _ _)).mono ?_; rintro e w7 ⟨rfl, hg7⟩; have G7 := Lib.hid hg7; clear hg7)
  go_ret
  exact DoOut.same (H6.out.still G7.out) HN.out.2.1 HN.out.2.2.1 HN.out.2.2.2.1 HN.out.2.2.2.2.1
set_option maxRecDepth 100000 in
set_option maxHeartbeats 2000000 in
theorem do_nosign_n (A : Nat → Addr) (W0 w : World) (p b m N : Nat) (F G J : Nat → Prop) (iv tv : Value) (us : List Value) (s : Rg) (ids : List ByteArray) (told : List (List Nat)) (key old : Int) (dom : ByteArray) (va : Option Addr) (n vc : Nat) (ma : Option Addr) (ml mc : Nat) (bs msg : List Nat)
    (h : PS W0 p w.heap.size b m F G J iv tv us (acts 1 key old dom (.slice va n vc) (.slice ma ml mc)) s s ids told (w.alloc (.cells (acts 1 key old dom (.slice va n vc) (.slice ma ml mc)) 49)))
    (hE : AllErrs W0 A) (hLd : Laid W0) (hv : Bytes W0 (.slice va n vc) bs) (hv0 : Whole0 (.slice va n vc)) (hvn : bs.length = n) (hm : Bytes W0 (.slice ma ml mc) msg) (hm0 : Whole0 (.slice ma ml mc)) (hml : msg.length = ml) (hn2 : n ≤ 200) (hml2 : ml ≤ 200) (hd : dom.size ≤ 100) (hN : N ≤ 100) (hks : s.ks.length ≤ N) (hbk : s.bk.length ≤ N) (hil : ids.length ≤ N) (htl : told.length ≤ N) (hi0 : 0 < ids.length) (hre : recE s (idOf ids key) dom msg ≠ 0) :
    Calls Tryd.prog 15 #[.pointer (some ⟨p, 0, none⟩), .agg (acts 1 key old dom (.slice va n vc) (.slice ma ml mc))] w fun e w' => DoOut W0 p w.heap.size (acts 1 key old dom (.slice va n vc) (.slice ma ml mc)) N e w' := by
  obtain ⟨w1, hw1⟩ : ∃ w1, w1 = w.alloc (.cells (acts 1 key old dom (.slice va n vc) (.slice ma ml mc)) 49) := ⟨_, rfl⟩
  have HW1 := Lib.hid hw1
  rw [← hw1] at h
  have HH := Lib.hid h
  have HE := Lib.hid hE
  have HLd := Lib.hid hLd
  have HV := Lib.hid hv
  have HV0 := Lib.hid hv0
  have HVn := Lib.hid hvn
  have HM := Lib.hid hm
  have HM0 := Lib.hid hm0
  have HMl := Lib.hid hml
  have HN := Lib.hid (show N ≤ 100 ∧ s.ks.length ≤ N ∧ s.bk.length ≤ N ∧ ids.length ≤ N ∧ told.length ≤ N ∧ n ≤ 200 ∧ ml ≤ 200 ∧ dom.size ≤ 100 from ⟨hN, hks, hbk, hil, htl, hn2, hml2, hd⟩)
  have HC : Hid (∀ W : World, W.heap[w.heap.size]? = some (.cells (acts 1 key old dom (.slice va n vc) (.slice ma ml mc)) 49 (0, 0)) → W.cell? ⟨w.heap.size, 0, none⟩ = some (.int .i64 1) ∧ W.cell? ⟨w.heap.size, 1, none⟩ = some (.int .i64 key) ∧ W.cell? ⟨w.heap.size, 2, none⟩ = some (.int .i64 old) ∧ W.cell? ⟨w.heap.size, 3, none⟩ = some (.string dom) ∧ W.cell? ⟨w.heap.size, 4, none⟩ = some (.slice va n vc) ∧ W.cell? ⟨w.heap.size, 5, none⟩ = some (.slice ma ml mc)) := Lib.hid (fun W hW => ⟨cell_blk hW 0 rfl, cell_blk hW 1 rfl, cell_blk hW 2 rfl, cell_blk hW 3 rfl, cell_blk hW 4 rfl, cell_blk hW 5 rfl⟩)
  have hidz := idOf_size (fun id hid => (h.kn id hid).2) key
  have HIZ : Hid ((idOf ids key).size ≤ 1000) := Lib.hid hidz
  obtain ⟨_, ia, ig, io, ic, hiv, i2, i3⟩ := h.rows.now.1
  obtain ⟨_, ta, tg, tof, tc, htv, t2, t3⟩ := h.rows.now.2.1
  subst hiv
  subst htv
  obtain ⟨R, hR⟩ : ∃ R, R = recE s (idOf ids key) dom msg := ⟨_, rfl⟩
  have HR0 : Hid (recE s (idOf ids key) dom msg = R ∧ R ≠ 0) := Lib.hid ⟨hR.symm, by rw [hR]; exact hre⟩
  have HR28 : Hid (R ≤ 28) := Lib.hid (by rw [hR]; exact recE_le _ _ _ _)
  obtain ⟨L, hL⟩ : ∃ L, L = ids.length := ⟨_, rfl⟩
  obtain ⟨TL, hTL⟩ : ∃ TL, TL = told.length := ⟨_, rfl⟩
  have HLL : Hid (L = ids.length ∧ TL = told.length) := Lib.hid ⟨hL, hTL⟩
  have HB : Hid (∀ W : World, W.heap[p]? = some (.cells #[.pointer (some ⟨b, 0, none⟩), .pointer (some ⟨m, 0, none⟩), .slice ia L ic, .slice ta TL tc] 47 (0, 0)) → W.cell? ⟨p, 0, none⟩ = some (.pointer (some ⟨b, 0, none⟩)) ∧ W.cell? ⟨p, 1, none⟩ = some (.pointer (some ⟨m, 0, none⟩)) ∧ W.cell? ⟨p, 2, none⟩ = some (.slice ia L ic) ∧ W.cell? ⟨p, 3, none⟩ = some (.slice ta TL tc)) := Lib.hid (fun W hW => ⟨cell_blk hW 0 rfl, cell_blk hW 1 rfl, cell_blk hW 2 rfl, cell_blk hW 3 rfl⟩)
  have HBW : Hid (∀ (F' G' : Nat → Prop) (sp sd : Rg) (W : World), PS W0 p w.heap.size b m F' G' J (.slice ia ids.length ic) (.slice ta told.length tc) us (acts 1 key old dom (.slice va n vc) (.slice ma ml mc)) sp sd ids told W → W.heap[p]? = some (.cells #[.pointer (some ⟨b, 0, none⟩), .pointer (some ⟨m, 0, none⟩), .slice ia L ic, .slice ta TL tc] 47 (0, 0))) := Lib.hid (fun F' G' sp sd W h => by rw [hL, hTL]; exact h.blk)
  have hblk := HBW.out _ _ _ _ _ h
  obtain ⟨hb0, hb1, hb2, hb3⟩ := HB.out _ hblk
  obtain ⟨q0, q1, q2, q3, q4, q5⟩ := HC.out _ h.cb
  obtain ⟨j, hj⟩ : ∃ j, j = (key % 18446744073709551616).toNat % ids.length := ⟨_, rfl⟩
  have hjL : j < L := by rw [hj, hL]; exact Nat.mod_lt _ hi0
  obtain ⟨rfl, igl⟩ := i2 hi0
  obtain ⟨I, hI⟩ : ∃ I, I = idOf ids key := ⟨_, rfl⟩
  have ej := i3 j (.string I) (by
    rw [hI]
    unfold idOf
    rw [if_neg (by omega), ← hj, List.getElem?_map, List.getD_eq_getElem?_getD, List.getElem?_eq_getElem (by omega)]; rfl)
  have hw64 := u64n (n := ids.length) (by omega)
  have hidx := idx_eq key (n := ids.length) (by omega) hi0
  rw [← hj, ← hL] at hidx
  rw [← hL] at hw64
  have hL0 : ¬ (L : Int) = 0 := by omega
  have hLg : (0 : Int) < (L : Int) := by omega
  have hjL' : (j : Int) < (L : Int) := by omega
  have hj0 : (0 : Int) ≤ (j : Int) := by omega
  have hx2 : (w.alloc (.cells (acts 1 key old dom (.slice va n vc) (.slice ma ml mc)) 49)).cell? ⟨p, 2, none⟩ = some (.slice (some ⟨ig, io, none⟩) L ic) := by rw [← hw1]; exact hb2
  have HII : Hid (I = idOf ids key) := Lib.hid hI
  have HI0 := Lib.hid hi0
  clear hw1 h hE hLd hL hTL hj hI i2 hv hv0 hvn hm hm0 hml hn2 hml2 hd hN hks hbk hil htl hidz hblk hi0 hre hR t2 i3 t3
  go_enter Tryd.func15, Tryd.ntmps15
  go_wp2
  rw [← HW1.out]
  go_quiet (fail)
  obtain ⟨w2, hw2⟩ : ∃ w2, w2 = w1.drewN nq := ⟨_, rfl⟩
  rw [← hw2]
  have G2 : Hid (w1.grownBy w2 none) := Lib.hid (by rw [hw2]; exact grown_drewN (grown_refl _ _) _)
  have H2 := Lib.hid (HH.out.still G2.out)
  clear hw2 hb0 hb1 hb2 hb3 q0 q1 q2 q3 q4 q5 ej hidx hw64 hx2 hjL hjL' hj0 hL0 hLg
  obtain ⟨q0, q1, q2, q3, q4, q5⟩ := HC.out _ H2.out.cb
  obtain ⟨hb0, hb1, hb2, hb3⟩ := HB.out _ (HBW.out _ _ _ _ _ H2.out)
  have HSg : Hid (∀ n, Calls Tryd.prog 19 #[.pointer (some ⟨b, 0, none⟩), .string I, .string dom, .slice ma ml mc] (w2.drewN n) fun e w' => e = .returned (.tuple #[.slice none 0 0, errV A R]) ∧ w2.grownBy w' none) := Lib.hid (fun n => by
    have hp := H2.out.still (grown_drewN (grown_refl w2 none) n)
    have hcall := pgSign hp.hp HE.out HLd.out (idOf ids key) dom HIZ.out (by have := HN.out; omega) ma mc msg (by have := HMl.out; have := HN.out; omega) (fun W hW => by
      rw [HMl.out]; exact HM.out.grown (hW.base hp.hp.base (fun k hk => (hp.hp.own k hk).1))) (by rw [HMl.out]; exact HM0.out)
    rw [← HII.out, HMl.out] at hcall
    refine hcall.mono ?_
    rintro e w' (⟨h1, h2, h3⟩ | ⟨h1, _⟩)
    · rw [HII.out, HR0.out.1] at h2; exact ⟨h2, grown_trans (grown_drewN (grown_refl w2 none) n) h3⟩
    · rw [HII.out, HR0.out.1] at h1; exact absurd h1 HR0.out.2)
  have HRS : Hid (∀ W, w2.grownBy W none → Calls Tryd.prog 26 #[.pointer (some ⟨m, 0, none⟩), .string I, .string dom, .slice ma ml mc] W fun e w' => e = .returned (.tuple #[.slice none 0 0, .int .i64 (R : Nat)]) ∧ w2.grownBy w' none) := Lib.hid (fun W hW => by
    have hp := H2.out.still hW
    have hcall := rgSign hp.hr hp.hp.good (idOf ids key) dom (by have := HN.out; omega) ma ml mc msg (HM.out.grown hp.hr.base) HM0.out (by have := HN.out; omega) (by have := HN.out; omega)
    rw [← HII.out] at hcall
    refine hcall.mono ?_
    rintro e w' (⟨h1, h2, h3⟩ | ⟨h1, _⟩)
    · rw [HII.out, HR0.out.1] at h2; exact ⟨h2, grown_trans hW h3⟩
    · rw [HII.out, HR0.out.1] at h1; exact absurd h1 HR0.out.2)
  go_wp2
  refine go_start (by kernel_rfl) (go_seg (fun w' => ∃ n, w' = w2.drewN n) 9 (by kernel_rfl) ⟨1, rfl⟩ ?_)
  simp only [List.drop_succ_cons, List.drop_zero, Nat.sub_zero, Nat.reduceSub, List.take_succ_cons, List.take_zero]
  repeat (go_big_quiet_step (fail))
  refine wpQuiet_nil ?_
  rintro _ ⟨n3, rfl⟩
  refine go_one (by kernel_rfl) _ rfl ?_
  go_wp2_with (go_at_call 19; refine (HSg.out _).mono ?_; rintro e w3 ⟨rfl, hg3⟩; have G3 := Lib.hid hg3; clear hg3)
  refine go_seg (fun w' => ∃ n, w' = w3.drewN n) 15 (by kernel_rfl) ⟨0, rfl⟩ ?_
  simp only [List.drop_succ_cons, List.drop_zero, Nat.sub_zero, Nat.reduceSub, List.take_succ_cons, List.take_zero]
  repeat (go_big_quiet_step (fail))
  refine wpQuiet_nil ?_
  rintro _ ⟨n4, rfl⟩
  refine go_end ?_
  obtain ⟨w4, hww4⟩ : ∃ w4, w4 = w3.drewN n4 := ⟨_, rfl⟩
  rw [← hww4]
  have G4 : Hid (w2.grownBy w4 none) := Lib.hid (by rw [hww4]; exact grown_drewN G3.out _)
  have H4 := Lib.hid (H2.out.still G4.out)
  clear hww4
  clear q0 q1 q2 q3 q4 q5 hb0 hb1 hb2 hb3
  obtain ⟨q0, q1, q2, q3, q4, q5⟩ := HC.out _ H4.out.cb
  obtain ⟨hb0, hb1, hb2, hb3⟩ := HB.out _ (HBW.out _ _ _ _ _ H4.out)
  go_wp2
  refine go_start (by kernel_rfl) (go_seg (fun w' => ∃ n, w' = w4.drewN n) 9 (by kernel_rfl) ⟨1, rfl⟩ ?_)
  simp only [List.drop_succ_cons, List.drop_zero, Nat.sub_zero, Nat.reduceSub, List.take_succ_cons, List.take_zero]
  repeat (go_big_quiet_step (fail))
  refine wpQuiet_nil ?_
  rintro _ ⟨n3, rfl⟩
  refine go_one (by kernel_rfl) _ rfl ?_
  go_wp2_with (go_at_call 26; refine (HRS.out _ (grown_trans G4.out (grown_drewN (grown_refl _ _) _))).mono ?_; rintro e w5 ⟨rfl, hg5⟩; have G5 := Lib.hid hg5; clear hg5)
  refine go_seg (fun w' => ∃ n, w' = w5.drewN n) 15 (by kernel_rfl) ⟨0, rfl⟩ ?_
  simp only [List.drop_succ_cons, List.drop_zero, Nat.sub_zero, Nat.reduceSub, List.take_succ_cons, List.take_zero]
  repeat (go_big_quiet_step (fail))
  refine wpQuiet_nil ?_
  rintro _ ⟨n4, rfl⟩
  refine go_end ?_
  obtain ⟨w6, hww6⟩ : ∃ w6, w6 = w5.drewN n4 := ⟨_, rfl⟩
  rw [← hww6]
  have G6 : Hid (w2.grownBy w6 none) := Lib.hid (by rw [hww6]; exact grown_drewN G5.out _)
  have H6 := Lib.hid (H2.out.still G6.out)
  clear hww6
  clear q0 q1 q2 q3 q4 q5 hb0 hb1 hb2 hb3
  have hri : ¬ (R : Int) = 0 := by have := HR0.out.2; omega
  have cv := conv_bytes (bytes_nil w6) 22 5 9 Tryd.underlying22 Tryd.underlying5 Tryd.underlying9
  have hbe : ((strOf ([] : List Nat)).toList == (strOf ([] : List Nat)).toList) = true := beq_self_eq_true _
  have HNm : Hid (∀ W, w6.grownBy W none → Calls Tryd.prog 11 #[errV A R] W fun e w' => e = .returned (.int .i64 (R : Nat)) ∧ W.grownBy w' none) := Lib.hid (fun W hW => by
    have := num_of A R HR28.out W (HE.out.grown (grown_trans H6.out.hp.base hW))
    rw [errOf, if_neg HR0.out.2] at this
    exact this)
  go_wp2_with (go_at_call 11; refine (HNm.out _ (grown_refl _ _)).mono ?_; rintro e w7 ⟨rfl, hg7⟩; have G7 := Lib.hid hg7; clear hg7)
  go_ret
  exact DoOut.same (H6.out.still G7.out) HN.out.2.1 HN.out.2.2.1 HN.out.2.2.2.1 HN.out.2.2.2.2.1
end Go.Proofs.YtgdnndapmcjoeaaDoor
namespace Go.Proofs.YtgdnndapmcjoeaaDoor
open Go.RowKit Go.Maps
set_option linter.unusedVariables false
theorem sign_len {s : Rg} {x : ByteArray × ByteArray × ByteArray} : (s.sign x).bk.length ≤ s.bk.length + 1 := by
  show (Rg.signB s.bk x).length ≤ _
  unfold Rg.signB
  split
  · omega
  · simp
section
variable {W0 w w' : World} {p c b m N : Nat} {F F' G G' J : Nat → Prop} {iv tv iv' tv' : Value} {us us' : List Value} {ac : Array Value} {sp sd s' sp' sd' : Rg} {ids ids' : List ByteArray} {told told' : List (List Nat)}
theorem num_of_nil (A : Nat → Addr) (hE : AllErrs W0 A) (h : PS W0 p c b m F G J iv tv us ac sp sd ids told w) : Calls Tryd.prog 11 #[.nilIface] w fun e w' => e = .returned (.int .i64 0) ∧ w.grownBy w' none := by
  have := num_of A 0 (by decide) w (hE.grown h.hp.base)
  rw [errOf, if_pos rfl] at this
  exact this
/-- Where the document's signature may lie. -/
theorem told_at {w5 w6 : World} {u : Value} (h4 : PS W0 p c b m F G J iv tv us ac sp sd ids told w) (h5 : PS W0 p c b m F G' J iv tv us ac sp sd' ids told w5) (ha : ∀ k, At u k → w.heap.size ≤ k) (hg : w5.grownBy w6 none) : ∀ k, At u k → ¬ F k ∧ k ≠ m ∧ k ≠ p := fun k hk => by
  have h1 := ha k hk
  have h2 := h4.hr.lt m h4.hr.mem
  have h3 := blk_lt h4.blk
  exact ⟨fun hf => by have := (h4.hp.own k hf).2; omega, by omega, by omega⟩
theorem told_byt {w6 w10 w11 : World} {v u : Value} {D : List Nat} (h : PS W0 p c b m F G J iv tv us ac sp sd ids told w6) (hg : w6.grownBy w10 none) (hw : w11 = w10.setCell ⟨p, 3, none⟩ v) (hB : Bytes w6 u D) (hat : ∀ k, At u k → ¬ F k ∧ k ≠ m ∧ k ≠ p) : Bytes w11 u D := by
  have h1 := hB.grown hg
  subst hw
  exact bytes_keep h1 (by rw [setCell_size]; exact Nat.le_refl _) (fun _ k hk => Below.heap_setCell _ _ _ _ (hat k hk).2.2)
theorem told_sig {w6 w10 w11 : World} {v : Value} {g : Nat} {D : List Nat} (h : PS W0 p c b m F G J iv tv us ac sp sd ids told w6) (hg : w6.grownBy w10 none) (hw : w11 = w10.setCell ⟨p, 3, none⟩ v) (hd : w6.heap[g]? = some (.cells (bytesV D) 64 (0, 0))) (h8 : ∀ x ∈ D, x < 256) (h32 : D.length = 32) : Bytes w11 (.slice (some ⟨g, 0, none⟩) 32 32) D := by
  have hne : g ≠ p := fun e => by
    rw [e, h.blk] at hd
    simp at hd
  have h1 : w11.heap[g]? = some (.cells (bytesV D) 64 (0, 0)) := by
    subst hw
    exact (Below.heap_setCell _ _ _ _ hne).trans ((hg.block _ (blk_lt hd) (by simp)).trans hd)
  have := row_bytes h8 h1
  rw [h32] at this
  exact this
/-- What was told is more by one. -/
theorem told_row {L c10 : Nat} {a10 : Option Addr} {u : Value} {D : List Nat} {w6 w10 w11 : World} (h : PS W0 p c b m F G J iv tv us ac sp sd ids told w6) (hg : w6.grownBy w10 none)
    (ho : w10.ownsRow w6.heap.size 22 1 (.slice a10 (L + 1) c10) (L + 1) (us ++ [u])) (hL : L = told.length) (hw : w11 = w10.setCell ⟨p, 3, none⟩ (.slice a10 (L + 1) c10)) (hB : Bytes w6 u D) (hu0 : Whole0 u) (hat : ∀ k, At u k → ¬ F k ∧ k ≠ m ∧ k ≠ p) (h32 : D.length = 32) :
    PS W0 p c b m F G (fun k => J k ∨ (w6.heap.size ≤ k ∧ k < w10.heap.size) ∨ (At u k ∧ k < w10.heap.size)) iv (.slice a10 (L + 1) c10) (us ++ [u]) ac sp sd ids (told ++ [D]) w11 := by
  have hpl := blk_lt h.blk
  have hml := h.hr.lt m h.hr.mem
  have hul := h.rows.now.2.2.1
  have hBs : Bytes w10 u D := hB.grown hg
  refine h.turnP hg (i := 3) (x := .slice a10 (L + 1) c10) (by simp) hw ⟨fun k hk => ?_, fun W hW => ?_⟩ ⟨h.w0.1, whole_own ho, fun v hv => ?_⟩ (fun k hk => ?_) h.kn (fun l hl => ?_)
  · rcases hk with hk | hk | hk
    · exact Nat.lt_of_lt_of_le (h.rows.lt k hk) hg.size
    · exact hk.2
    · exact hk.2
  · have h1 := (h.rows.grown hg).holds W (hW.mono (fun k hk => .inl hk))
    have hBW : Bytes W u D := by
      refine bytes_keep hBs hW.size (fun hp k hk => hW.block k (.inr (.inr ⟨hk, ?_⟩)))
      obtain ⟨_, a, sb, so, cc, rfl, _, h4, _⟩ := hBs
      obtain ⟨ad, n', c', e, rfl⟩ := hk
      obtain ⟨e1, e2⟩ := h4 hp
      injection e with e
      rw [e1] at e
      have := Option.some.inj e
      rw [← this]; exact e2
    refine ⟨h1.1, ?_, by simp [hul], ?_⟩
    · subst hL
      rw [List.length_append]
      exact row_keep (row_own ho) hW.size (fun _ k hk => by
        obtain ⟨a1, a2, _⟩ := own_at ho hk
        exact hW.block k (.inr (.inl ⟨a1, a2⟩)))
    · intro pr hpr
      rw [List.zip_append hul.symm] at hpr
      rcases List.mem_append.1 hpr with hpr | hpr
      · exact h1.2.2.2 pr hpr
      · simp at hpr; subst hpr; exact hBW
  · rcases List.mem_append.1 hv with hv | hv
    · exact h.w0.2.2 v hv
    · simp at hv; rw [hv]; exact hu0
  · rcases hk with hk | hk | hk
    · exact h.jn k hk
    · exact ⟨fun hf => by have := (h.hp.own k hf).2; omega, by omega, by omega⟩
    · exact hat k hk.1
  · rcases List.mem_append.1 hl with hl | hl
    · exact h.tl l hl
    · simp at hl; rw [hl]; exact h32
end
end Go.Proofs.YtgdnndapmcjoeaaDoor
