import Derived.Test.YtgdnndapmcjoeaaDoorKe45
namespace Go.Proofs.YtgdnndapmcjoeaaDoor
open Go.RowKit Go.Maps
set_option linter.unusedVariables false
set_option maxRecDepth 100000 in
set_option maxHeartbeats 2000000 in
theorem do_ver3_e (A : Nat → Addr) (W0 w : World) (p b m N : Nat) (F G J : Nat → Prop) (iv tv : Value) (us : List Value) (s : Rg) (ids : List ByteArray) (told : List (List Nat)) (key old : Int) (dom : ByteArray) (va : Option Addr) (n vc : Nat) (ma : Option Addr) (ml mc : Nat) (bs msg : List Nat)
    (h : PS W0 p w.heap.size b m F G J iv tv us (acts 3 key old dom (.slice va n vc) (.slice ma ml mc)) s s ids told (w.alloc (.cells (acts 3 key old dom (.slice va n vc) (.slice ma ml mc)) 49)))
    (hE : AllErrs W0 A) (hLd : Laid W0) (hv : Bytes W0 (.slice va n vc) bs) (hv0 : Whole0 (.slice va n vc)) (hvn : bs.length = n) (hm : Bytes W0 (.slice ma ml mc) msg) (hm0 : Whole0 (.slice ma ml mc)) (hml : msg.length = ml) (hn2 : n ≤ 200) (hml2 : ml ≤ 200) (hd : dom.size ≤ 100) (hN : N ≤ 100) (hks : s.ks.length ≤ N) (hbk : s.bk.length ≤ N) (hil : ids.length ≤ N) (htl : told.length ≤ N) (hi0 : ids.length = 0) :
    Calls Tryd.prog 15 #[.pointer (some ⟨p, 0, none⟩), .agg (acts 3 key old dom (.slice va n vc) (.slice ma ml mc))] w fun e w' => DoOut W0 p w.heap.size (acts 3 key old dom (.slice va n vc) (.slice ma ml mc)) N e w' := by
  obtain ⟨w1, hw1⟩ : ∃ w1, w1 = w.alloc (.cells (acts 3 key old dom (.slice va n vc) (.slice ma ml mc)) 49) := ⟨_, rfl⟩
  have HW1 := Lib.hid hw1
  rw [← hw1] at h
  have HH := Lib.hid h
  have HE := Lib.hid hE
  have HLd := Lib.hid hLd
  have HV := Lib.hid hv
  have HV0 := Lib.hid hv0
  have HVn := Lib.hid hvn
  have HM := Lib.hid hm
  have HM0 := Lib.hid hm0
  have HMl := Lib.hid hml
  have HN := Lib.hid (show N ≤ 100 ∧ s.ks.length ≤ N ∧ s.bk.length ≤ N ∧ ids.length ≤ N ∧ told.length ≤ N ∧ n ≤ 200 ∧ ml ≤ 200 ∧ dom.size ≤ 100 from ⟨hN, hks, hbk, hil, htl, hn2, hml2, hd⟩)
  have HC : Hid (∀ W : World, W.heap[w.heap.size]? = some (.cells (acts 3 key old dom (.slice va n vc) (.slice ma ml mc)) 49 (0, 0)) → W.cell? ⟨w.heap.size, 0, none⟩ = some (.int .i64 3) ∧ W.cell? ⟨w.heap.size, 1, none⟩ = some (.int .i64 key) ∧ W.cell? ⟨w.heap.size, 2, none⟩ = some (.int .i64 old) ∧ W.cell? ⟨w.heap.size, 3, none⟩ = some (.string dom) ∧ W.cell? ⟨w.heap.size, 4, none⟩ = some (.slice va n vc) ∧ W.cell? ⟨w.heap.size, 5, none⟩ = some (.slice ma ml mc)) := Lib.hid (fun W hW => ⟨cell_blk hW 0 rfl, cell_blk hW 1 rfl, cell_blk hW 2 rfl, cell_blk hW 3 rfl, cell_blk hW 4 rfl, cell_blk hW 5 rfl⟩)
  have hidz := idOf_size (fun id hid => (h.kn id hid).2) key
  have HIZ : Hid ((idOf ids key).size ≤ 1000) := Lib.hid hidz
  obtain ⟨_, ia, ig, io, ic, hiv, i2, i3⟩ := h.rows.now.1
  obtain ⟨_, ta, tg, tof, tc, htv, t2, t3⟩ := h.rows.now.2.1
  subst hiv
  subst htv
  obtain ⟨sg, hsg⟩ : ∃ sg, sg = bs := ⟨_, rfl⟩
  obtain ⟨R, hR⟩ : ∃ R, R = verE s (idOf ids key) dom msg sg := ⟨_, rfl⟩
  have HR0 : Hid (verE s (idOf ids key) dom msg sg = R) := Lib.hid hR.symm
  have HR28 : Hid (R ≤ 28) := Lib.hid (by rw [hR]; exact verE_le _ _ _ _ _)
  have HB1 : Hid (W0.grownBy w1 none) := Lib.hid h.hp.base
  have HSG : Hid (sg.length ≤ 1152921504606846976 ∧ sg.length = n) := Lib.hid ⟨by rw [hsg, hvn]; omega, by rw [hsg, hvn]⟩
  subst hsg
  obtain ⟨L, hL⟩ : ∃ L, L = ids.length := ⟨_, rfl⟩
  obtain ⟨TL, hTL⟩ : ∃ TL, TL = told.length := ⟨_, rfl⟩
  have HLL : Hid (L = ids.length ∧ TL = told.length) := Lib.hid ⟨hL, hTL⟩
  have HB : Hid (∀ W : World, W.heap[p]? = some (.cells #[.pointer (some ⟨b, 0, none⟩), .pointer (some ⟨m, 0, none⟩), .slice ia L ic, .slice ta TL tc] 47 (0, 0)) → W.cell? ⟨p, 0, none⟩ = some (.pointer (some ⟨b, 0, none⟩)) ∧ W.cell? ⟨p, 1, none⟩ = some (.pointer (some ⟨m, 0, none⟩)) ∧ W.cell? ⟨p, 2, none⟩ = some (.slice ia L ic) ∧ W.cell? ⟨p, 3, none⟩ = some (.slice ta TL tc)) := Lib.hid (fun W hW => ⟨cell_blk hW 0 rfl, cell_blk hW 1 rfl, cell_blk hW 2 rfl, cell_blk hW 3 rfl⟩)
  have HBW : Hid (∀ (F' G' : Nat → Prop) (sp sd : Rg) (W : World), PS W0 p w.heap.size b m F' G' J (.slice ia ids.length ic) (.slice ta told.length tc) us (acts 3 key old dom (.slice va n vc) (.slice ma ml mc)) sp sd ids told W → W.heap[p]? = some (.cells #[.pointer (some ⟨b, 0, none⟩), .pointer (some ⟨m, 0, none⟩), .slice ia L ic, .slice ta TL tc] 47 (0, 0))) := Lib.hid (fun F' G' sp sd W h => by rw [hL, hTL]; exact h.blk)
  have hblk := HBW.out _ _ _ _ _ h
  obtain ⟨hb0, hb1, hb2, hb3⟩ := HB.out _ hblk
  obtain ⟨q0, q1, q2, q3, q4, q5⟩ := HC.out _ h.cb
  have hLn : ¬ (0 : Int) < (L : Int) := by omega
  have hI : (⟨#[110, 111, 110, 101]⟩ : ByteArray) = idOf ids key := by unfold idOf; rw [if_pos hi0]
  obtain ⟨hx0, hx1, hx2', hx3, hx4, hx5⟩ := HC.out (w.alloc (.cells (acts 3 key old dom (.slice va n vc) (.slice ma ml mc)) 49)) (by rw [← hw1]; exact h.cb)
  obtain ⟨hy0, hy1, hy2, hy3⟩ := HB.out (w.alloc (.cells (acts 3 key old dom (.slice va n vc) (.slice ma ml mc)) 49)) (by rw [← hw1]; exact hblk)
  have HII := Lib.hid hI
  have HI0 := Lib.hid hi0
  have H2 := Lib.hid h
  have G2 : Hid (w1.grownBy w1 none) := Lib.hid (grown_refl _ _)
  clear hw1 h hE hLd hL hTL hI i2 hv hv0 hvn hm hm0 hml hn2 hml2 hd hN hks hbk hil htl hidz hblk hi0 hR t2 i3 t3
  go_enter Tryd.func15, Tryd.ntmps15
  go_wp2
  rw [← HW1.out]
  clear hx0 hx1 hx2' hx3 hx4 hx5 hy0 hy1 hy2 hy3
  obtain ⟨w2, hw2⟩ : ∃ w2, w2 = w1 := ⟨_, rfl⟩
  subst hw2
  go_wp2
  obtain ⟨w3, hw3⟩ : ∃ w3, w3 = w2 := ⟨_, rfl⟩
  subst hw3
  have G3 := Lib.hid G2.out
  have H3 := Lib.hid H2.out
  clear q0 q1 q2 q3 q4 q5 hb0 hb1 hb2 hb3
  have hres : Hid (∀ W, w3.grownBy W none → PS W0 p w.heap.size b m F G J (.slice ia ids.length ic) (.slice ta told.length tc) us (acts 3 key old dom (.slice va n vc) (.slice ma ml mc)) s s ids told W) := Lib.hid (fun W hW => H3.out.still hW)
  have hVf : ∀ W, w3.grownBy W none → Calls Tryd.prog 21 #[.pointer (some ⟨b, 0, none⟩), .string ⟨#[110, 111, 110, 101]⟩, .string dom, .slice ma ml mc, .slice va n vc] W fun e w' => e = .returned (errOf A R) ∧ W.grownBy w' none := fun W hW => by
    have hp := hres.out W hW
    have hcall := pgVerify hp.hp HE.out HLd.out (idOf ids key) dom HIZ.out (by have := HN.out; omega) ma mc msg (by have := HMl.out; have := HN.out; omega) (by rw [HMl.out]; exact HM.out.grown hp.hp.base) (by rw [HMl.out]; exact HM0.out) va vc sg HSG.out.1 (by rw [HSG.out.2]; exact (HV.out.grown (grown_trans HB1.out (grown_trans G3.out hW))))
    rw [← HII.out, HMl.out, HSG.out.2, HII.out, HR0.out] at hcall
    rw [HII.out]
    exact hcall
  have hNf : ∀ W, w3.grownBy W none → Calls Tryd.prog 11 #[errOf A R] W fun e w' => e = .returned (.int .i64 (R : Int)) ∧ W.grownBy w' none := fun W hW => num_of A R HR28.out W (HE.out.grown (hres.out W hW).hp.base)
  have hRf : ∀ W, w3.grownBy W none → Calls Tryd.prog 28 #[.pointer (some ⟨m, 0, none⟩), .string ⟨#[110, 111, 110, 101]⟩, .string dom, .slice ma ml mc, .slice va n vc] W fun e w' => e = .returned (.int .i64 (R : Int)) ∧ W.grownBy w' none := fun W hW => by
    have hp := hres.out W hW
    have hcall := rgVerify hp.hr hp.hp.good (idOf ids key) dom (by have := HN.out; omega) ma ml mc msg (HM.out.grown hp.hr.base) HM0.out (.slice va n vc) sg (HV.out.grown (grown_trans HB1.out (grown_trans G3.out hW))) (by have := HN.out; omega) (by have := HN.out; omega)
    rw [HR0.out] at hcall
    rw [HII.out]
    exact hcall
  refine kd_region23 _ p w.heap.size b m R ⟨#[110, 111, 110, 101]⟩ dom (errOf A R) ma va ml mc n vc w3 w3 _ rfl rfl rfl rfl rfl (fun W hW => (HB.out _ (HBW.out _ _ _ _ _ (hres.out W hW))).1) (fun W hW => (HB.out _ (HBW.out _ _ _ _ _ (hres.out W hW))).2.1) (fun W hW => (HC.out _ (hres.out W hW).cb).2.2.2.1) (fun W hW => (HC.out _ (hres.out W hW).cb).2.2.2.2.2) hVf hNf hRf ⟨rfl, rfl, rfl, Nat.le_refl _, fun _ _ _ => rfl⟩ (fun us9 w9 hg9 => ?_)
  simp only [kfill_cons, kfill_nil, Act.put, List.setIfInBounds_toArray, List.set_cons_succ, List.set_cons_zero]
  have H9 := Lib.hid (hres.out w9 hg9)
  clear hg9 hVf hNf hRf
  go_wp2
  go_ret
  exact DoOut.same H9.out HN.out.2.1 HN.out.2.2.1 HN.out.2.2.2.1 HN.out.2.2.2.2.1
set_option maxRecDepth 100000 in
set_option maxHeartbeats 2000000 in
theorem do_ver3_n (A : Nat → Addr) (W0 w : World) (p b m N : Nat) (F G J : Nat → Prop) (iv tv : Value) (us : List Value) (s : Rg) (ids : List ByteArray) (told : List (List Nat)) (key old : Int) (dom : ByteArray) (va : Option Addr) (n vc : Nat) (ma : Option Addr) (ml mc : Nat) (bs msg : List Nat)
    (h : PS W0 p w.heap.size b m F G J iv tv us (acts 3 key old dom (.slice va n vc) (.slice ma ml mc)) s s ids told (w.alloc (.cells (acts 3 key old dom (.slice va n vc) (.slice ma ml mc)) 49)))
    (hE : AllErrs W0 A) (hLd : Laid W0) (hv : Bytes W0 (.slice va n vc) bs) (hv0 : Whole0 (.slice va n vc)) (hvn : bs.length = n) (hm : Bytes W0 (.slice ma ml mc) msg) (hm0 : Whole0 (.slice ma ml mc)) (hml : msg.length = ml) (hn2 : n ≤ 200) (hml2 : ml ≤ 200) (hd : dom.size ≤ 100) (hN : N ≤ 100) (hks : s.ks.length ≤ N) (hbk : s.bk.length ≤ N) (hil : ids.length ≤ N) (htl : told.length ≤ N) (hi0 : 0 < ids.length) :
    Calls Tryd.prog 15 #[.pointer (some ⟨p, 0, none⟩), .agg (acts 3 key old dom (.slice va n vc) (.slice ma ml mc))] w fun e w' => DoOut W0 p w.heap.size (acts 3 key old dom (.slice va n vc) (.slice ma ml mc)) N e w' := by
  obtain ⟨w1, hw1⟩ : ∃ w1, w1 = w.alloc (.cells (acts 3 key old dom (.slice va n vc) (.slice ma ml mc)) 49) := ⟨_, rfl⟩
  have HW1 := Lib.hid hw1
  rw [← hw1] at h
  have HH := Lib.hid h
  have HE := Lib.hid hE
  have HLd := Lib.hid hLd
  have HV := Lib.hid hv
  have HV0 := Lib.hid hv0
  have HVn := Lib.hid hvn
  have HM := Lib.hid hm
  have HM0 := Lib.hid hm0
  have HMl := Lib.hid hml
  have HN := Lib.hid (show N ≤ 100 ∧ s.ks.length ≤ N ∧ s.bk.length ≤ N ∧ ids.length ≤ N ∧ told.length ≤ N ∧ n ≤ 200 ∧ ml ≤ 200 ∧ dom.size ≤ 100 from ⟨hN, hks, hbk, hil, htl, hn2, hml2, hd⟩)
  have HC : Hid (∀ W : World, W.heap[w.heap.size]? = some (.cells (acts 3 key old dom (.slice va n vc) (.slice ma ml mc)) 49 (0, 0)) → W.cell? ⟨w.heap.size, 0, none⟩ = some (.int .i64 3) ∧ W.cell? ⟨w.heap.size, 1, none⟩ = some (.int .i64 key) ∧ W.cell? ⟨w.heap.size, 2, none⟩ = some (.int .i64 old) ∧ W.cell? ⟨w.heap.size, 3, none⟩ = some (.string dom) ∧ W.cell? ⟨w.heap.size, 4, none⟩ = some (.slice va n vc) ∧ W.cell? ⟨w.heap.size, 5, none⟩ = some (.slice ma ml mc)) := Lib.hid (fun W hW => ⟨cell_blk hW 0 rfl, cell_blk hW 1 rfl, cell_blk hW 2 rfl, cell_blk hW 3 rfl, cell_blk hW 4 rfl, cell_blk hW 5 rfl⟩)
  have hidz := idOf_size (fun id hid => (h.kn id hid).2) key
  have HIZ : Hid ((idOf ids key).size ≤ 1000) := Lib.hid hidz
  obtain ⟨_, ia, ig, io, ic, hiv, i2, i3⟩ := h.rows.now.1
  obtain ⟨_, ta, tg, tof, tc, htv, t2, t3⟩ := h.rows.now.2.1
  subst hiv
  subst htv
  obtain ⟨sg, hsg⟩ : ∃ sg, sg = bs := ⟨_, rfl⟩
  obtain ⟨R, hR⟩ : ∃ R, R = verE s (idOf ids key) dom msg sg := ⟨_, rfl⟩
  have HR0 : Hid (verE s (idOf ids key) dom msg sg = R) := Lib.hid hR.symm
  have HR28 : Hid (R ≤ 28) := Lib.hid (by rw [hR]; exact verE_le _ _ _ _ _)
  have HB1 : Hid (W0.grownBy w1 none) := Lib.hid h.hp.base
  have HSG : Hid (sg.length ≤ 1152921504606846976 ∧ sg.length = n) := Lib.hid ⟨by rw [hsg, hvn]; omega, by rw [hsg, hvn]⟩
  subst hsg
  obtain ⟨L, hL⟩ : ∃ L, L = ids.length := ⟨_, rfl⟩
  obtain ⟨TL, hTL⟩ : ∃ TL, TL = told.length := ⟨_, rfl⟩
  have HLL : Hid (L = ids.length ∧ TL = told.length) := Lib.hid ⟨hL, hTL⟩
  have HB : Hid (∀ W : World, W.heap[p]? = some (.cells #[.pointer (some ⟨b, 0, none⟩), .pointer (some ⟨m, 0, none⟩), .slice ia L ic, .slice ta TL tc] 47 (0, 0)) → W.cell? ⟨p, 0, none⟩ = some (.pointer (some ⟨b, 0, none⟩)) ∧ W.cell? ⟨p, 1, none⟩ = some (.pointer (some ⟨m, 0, none⟩)) ∧ W.cell? ⟨p, 2, none⟩ = some (.slice ia L ic) ∧ W.cell? ⟨p, 3, none⟩ = some (.slice ta TL tc)) := Lib.hid (fun W hW => ⟨cell_blk hW 0 rfl, cell_blk hW 1 rfl, cell_blk hW 2 rfl, cell_blk hW 3 rfl⟩)
  have HBW : Hid (∀ (F' G' : Nat → Prop) (sp sd : Rg) (W : World), PS W0 p w.heap.size b m F' G' J (.slice ia ids.length ic) (.slice ta told.length tc) us (acts 3 key old dom (.slice va n vc) (.slice ma ml mc)) sp sd ids told W → W.heap[p]? = some (.cells #[.pointer (some ⟨b, 0, none⟩), .pointer (some ⟨m, 0, none⟩), .slice ia L ic, .slice ta TL tc] 47 (0, 0))) := Lib.hid (fun F' G' sp sd W h => by rw [hL, hTL]; exact h.blk)
  have hblk := HBW.out _ _ _ _ _ h
  obtain ⟨hb0, hb1, hb2, hb3⟩ := HB.out _ hblk
  obtain ⟨q0, q1, q2, q3, q4, q5⟩ := HC.out _ h.cb
  obtain ⟨j, hj⟩ : ∃ j, j = (key % 18446744073709551616).toNat % ids.length := ⟨_, rfl⟩
  have hjL : j < L := by rw [hj, hL]; exact Nat.mod_lt _ hi0
  obtain ⟨rfl, igl⟩ := i2 hi0
  obtain ⟨I, hI⟩ : ∃ I, I = idOf ids key := ⟨_, rfl⟩
  have ej := i3 j (.string I) (by
    rw [hI]
    unfold idOf
    rw [if_neg (by omega), ← hj, List.getElem?_map, List.getD_eq_getElem?_getD, List.getElem?_eq_getElem (by omega)]; rfl)
  have hw64 := u64n (n := ids.length) (by omega)
  have hidx := idx_eq key (n := ids.length) (by omega) hi0
  rw [← hj, ← hL] at hidx
  rw [← hL] at hw64
  have hL0 : ¬ (L : Int) = 0 := by omega
  have hLg : (0 : Int) < (L : Int) := by omega
  have hjL' : (j : Int) < (L : Int) := by omega
  have hj0 : (0 : Int) ≤ (j : Int) := by omega
  have hx2 : (w.alloc (.cells (acts 3 key old dom (.slice va n vc) (.slice ma ml mc)) 49)).cell? ⟨p, 2, none⟩ = some (.slice (some ⟨ig, io, none⟩) L ic) := by rw [← hw1]; exact hb2
  have HII : Hid (I = idOf ids key) := Lib.hid hI
  have HI0 := Lib.hid hi0
  clear hw1 h hE hLd hL hTL hj hI i2 hv hv0 hvn hm hm0 hml hn2 hml2 hd hN hks hbk hil htl hidz hblk hi0 hR t2 i3 t3
  go_enter Tryd.func15, Tryd.ntmps15
  go_wp2
  rw [← HW1.out]
  go_quiet (fail)
  obtain ⟨w2, hw2⟩ : ∃ w2, w2 = w1.drewN nq := ⟨_, rfl⟩
  rw [← hw2]
  have G2 : Hid (w1.grownBy w2 none) := Lib.hid (by rw [hw2]; exact grown_drewN (grown_refl _ _) _)
  have H2 := Lib.hid (HH.out.still G2.out)
  clear hw2 hb0 hb1 hb2 hb3 q0 q1 q2 q3 q4 q5 ej hidx hw64 hx2 hjL hjL' hj0 hL0 hLg
  obtain ⟨q0, q1, q2, q3, q4, q5⟩ := HC.out _ H2.out.cb
  obtain ⟨hb0, hb1, hb2, hb3⟩ := HB.out _ (HBW.out _ _ _ _ _ H2.out)
  go_wp2
  obtain ⟨w3, hw3⟩ : ∃ w3, w3 = w2 := ⟨_, rfl⟩
  subst hw3
  have G3 := Lib.hid G2.out
  have H3 := Lib.hid H2.out
  clear q0 q1 q2 q3 q4 q5 hb0 hb1 hb2 hb3
  have hres : Hid (∀ W, w3.grownBy W none → PS W0 p w.heap.size b m F G J (.slice (some ⟨ig, io, none⟩) ids.length ic) (.slice ta told.length tc) us (acts 3 key old dom (.slice va n vc) (.slice ma ml mc)) s s ids told W) := Lib.hid (fun W hW => H3.out.still hW)
  have hVf : ∀ W, w3.grownBy W none → Calls Tryd.prog 21 #[.pointer (some ⟨b, 0, none⟩), .string I, .string dom, .slice ma ml mc, .slice va n vc] W fun e w' => e = .returned (errOf A R) ∧ W.grownBy w' none := fun W hW => by
    have hp := hres.out W hW
    have hcall := pgVerify hp.hp HE.out HLd.out (idOf ids key) dom HIZ.out (by have := HN.out; omega) ma mc msg (by have := HMl.out; have := HN.out; omega) (by rw [HMl.out]; exact HM.out.grown hp.hp.base) (by rw [HMl.out]; exact HM0.out) va vc sg HSG.out.1 (by rw [HSG.out.2]; exact (HV.out.grown (grown_trans HB1.out (grown_trans G3.out hW))))
    rw [← HII.out, HMl.out, HSG.out.2, HII.out, HR0.out] at hcall
    rw [HII.out]
    exact hcall
  have hNf : ∀ W, w3.grownBy W none → Calls Tryd.prog 11 #[errOf A R] W fun e w' => e = .returned (.int .i64 (R : Int)) ∧ W.grownBy w' none := fun W hW => num_of A R HR28.out W (HE.out.grown (hres.out W hW).hp.base)
  have hRf : ∀ W, w3.grownBy W none → Calls Tryd.prog 28 #[.pointer (some ⟨m, 0, none⟩), .string I, .string dom, .slice ma ml mc, .slice va n vc] W fun e w' => e = .returned (.int .i64 (R : Int)) ∧ W.grownBy w' none := fun W hW => by
    have hp := hres.out W hW
    have hcall := rgVerify hp.hr hp.hp.good (idOf ids key) dom (by have := HN.out; omega) ma ml mc msg (HM.out.grown hp.hr.base) HM0.out (.slice va n vc) sg (HV.out.grown (grown_trans HB1.out (grown_trans G3.out hW))) (by have := HN.out; omega) (by have := HN.out; omega)
    rw [HR0.out] at hcall
    rw [HII.out]
    exact hcall
  refine kd_region23 _ p w.heap.size b m R I dom (errOf A R) ma va ml mc n vc w3 w3 _ rfl rfl rfl rfl rfl (fun W hW => (HB.out _ (HBW.out _ _ _ _ _ (hres.out W hW))).1) (fun W hW => (HB.out _ (HBW.out _ _ _ _ _ (hres.out W hW))).2.1) (fun W hW => (HC.out _ (hres.out W hW).cb).2.2.2.1) (fun W hW => (HC.out _ (hres.out W hW).cb).2.2.2.2.2) hVf hNf hRf ⟨rfl, rfl, rfl, Nat.le_refl _, fun _ _ _ => rfl⟩ (fun us9 w9 hg9 => ?_)
  simp only [kfill_cons, kfill_nil, Act.put, List.setIfInBounds_toArray, List.set_cons_succ, List.set_cons_zero]
  have H9 := Lib.hid (hres.out w9 hg9)
  clear hg9 hVf hNf hRf
  go_wp2
  go_ret
  exact DoOut.same H9.out HN.out.2.1 HN.out.2.2.1 HN.out.2.2.2.1 HN.out.2.2.2.2.1
set_option maxRecDepth 100000 in
set_option maxHeartbeats 2000000 in
theorem do_ver2_e (A : Nat → Addr) (W0 w : World) (p b m N : Nat) (F G J : Nat → Prop) (iv tv : Value) (us : List Value) (s : Rg) (ids : List ByteArray) (told : List (List Nat)) (key old : Int) (dom : ByteArray) (va : Option Addr) (n vc : Nat) (ma : Option Addr) (ml mc : Nat) (bs msg : List Nat)
    (h : PS W0 p w.heap.size b m F G J iv tv us (acts 2 key old dom (.slice va n vc) (.slice ma ml mc)) s s ids told (w.alloc (.cells (acts 2 key old dom (.slice va n vc) (.slice ma ml mc)) 49)))
    (hE : AllErrs W0 A) (hLd : Laid W0) (hv : Bytes W0 (.slice va n vc) bs) (hv0 : Whole0 (.slice va n vc)) (hvn : bs.length = n) (hm : Bytes W0 (.slice ma ml mc) msg) (hm0 : Whole0 (.slice ma ml mc)) (hml : msg.length = ml) (hn2 : n ≤ 200) (hml2 : ml ≤ 200) (hd : dom.size ≤ 100) (hN : N ≤ 100) (hks : s.ks.length ≤ N) (hbk : s.bk.length ≤ N) (hil : ids.length ≤ N) (htl : told.length ≤ N) (hi0 : ids.length = 0) (htp : told.length = 0) :
    Calls Tryd.prog 15 #[.pointer (some ⟨p, 0, none⟩), .agg (acts 2 key old dom (.slice va n vc) (.slice ma ml mc))] w fun e w' => DoOut W0 p w.heap.size (acts 2 key old dom (.slice va n vc) (.slice ma ml mc)) N e w' := by
  obtain ⟨w1, hw1⟩ : ∃ w1, w1 = w.alloc (.cells (acts 2 key old dom (.slice va n vc) (.slice ma ml mc)) 49) := ⟨_, rfl⟩
  have HW1 := Lib.hid hw1
  rw [← hw1] at h
  have HH := Lib.hid h
  have HE := Lib.hid hE
  have HLd := Lib.hid hLd
  have HV := Lib.hid hv
  have HV0 := Lib.hid hv0
  have HVn := Lib.hid hvn
  have HM := Lib.hid hm
  have HM0 := Lib.hid hm0
  have HMl := Lib.hid hml
  have HN := Lib.hid (show N ≤ 100 ∧ s.ks.length ≤ N ∧ s.bk.length ≤ N ∧ ids.length ≤ N ∧ told.length ≤ N ∧ n ≤ 200 ∧ ml ≤ 200 ∧ dom.size ≤ 100 from ⟨hN, hks, hbk, hil, htl, hn2, hml2, hd⟩)
  have HC : Hid (∀ W : World, W.heap[w.heap.size]? = some (.cells (acts 2 key old dom (.slice va n vc) (.slice ma ml mc)) 49 (0, 0)) → W.cell? ⟨w.heap.size, 0, none⟩ = some (.int .i64 2) ∧ W.cell? ⟨w.heap.size, 1, none⟩ = some (.int .i64 key) ∧ W.cell? ⟨w.heap.size, 2, none⟩ = some (.int .i64 old) ∧ W.cell? ⟨w.heap.size, 3, none⟩ = some (.string dom) ∧ W.cell? ⟨w.heap.size, 4, none⟩ = some (.slice va n vc) ∧ W.cell? ⟨w.heap.size, 5, none⟩ = some (.slice ma ml mc)) := Lib.hid (fun W hW => ⟨cell_blk hW 0 rfl, cell_blk hW 1 rfl, cell_blk hW 2 rfl, cell_blk hW 3 rfl, cell_blk hW 4 rfl, cell_blk hW 5 rfl⟩)
  have hidz := idOf_size (fun id hid => (h.kn id hid).2) key
  have HIZ : Hid ((idOf ids key).size ≤ 1000) := Lib.hid hidz
  obtain ⟨_, ia, ig, io, ic, hiv, i2, i3⟩ := h.rows.now.1
  obtain ⟨_, ta, tg, tof, tc, htv, t2, t3⟩ := h.rows.now.2.1
  subst hiv
  subst htv
  obtain ⟨sg, hsg⟩ : ∃ sg, sg = bs := ⟨_, rfl⟩
  obtain ⟨R, hR⟩ : ∃ R, R = verE s (idOf ids key) dom msg sg := ⟨_, rfl⟩
  have HR0 : Hid (verE s (idOf ids key) dom msg sg = R) := Lib.hid hR.symm
  have HR28 : Hid (R ≤ 28) := Lib.hid (by rw [hR]; exact verE_le _ _ _ _ _)
  have HB1 : Hid (W0.grownBy w1 none) := Lib.hid h.hp.base
  have HSG : Hid (sg.length ≤ 1152921504606846976 ∧ sg.length = n) := Lib.hid ⟨by rw [hsg, hvn]; omega, by rw [hsg, hvn]⟩
  subst hsg
  have HTP := Lib.hid htp
  obtain ⟨L, hL⟩ : ∃ L, L = ids.length := ⟨_, rfl⟩
  obtain ⟨TL, hTL⟩ : ∃ TL, TL = told.length := ⟨_, rfl⟩
  have hTn : ¬ (0 : Int) < (TL : Int) := by omega
  have HLL : Hid (L = ids.length ∧ TL = told.length) := Lib.hid ⟨hL, hTL⟩
  have HB : Hid (∀ W : World, W.heap[p]? = some (.cells #[.pointer (some ⟨b, 0, none⟩), .pointer (some ⟨m, 0, none⟩), .slice ia L ic, .slice ta TL tc] 47 (0, 0)) → W.cell? ⟨p, 0, none⟩ = some (.pointer (some ⟨b, 0, none⟩)) ∧ W.cell? ⟨p, 1, none⟩ = some (.pointer (some ⟨m, 0, none⟩)) ∧ W.cell? ⟨p, 2, none⟩ = some (.slice ia L ic) ∧ W.cell? ⟨p, 3, none⟩ = some (.slice ta TL tc)) := Lib.hid (fun W hW => ⟨cell_blk hW 0 rfl, cell_blk hW 1 rfl, cell_blk hW 2 rfl, cell_blk hW 3 rfl⟩)
  have HBW : Hid (∀ (F' G' : Nat → Prop) (sp sd : Rg) (W : World), PS W0 p w.heap.size b m F' G' J (.slice ia ids.length ic) (.slice ta told.length tc) us (acts 2 key old dom (.slice va n vc) (.slice ma ml mc)) sp sd ids told W → W.heap[p]? = some (.cells #[.pointer (some ⟨b, 0, none⟩), .pointer (some ⟨m, 0, none⟩), .slice ia L ic, .slice ta TL tc] 47 (0, 0))) := Lib.hid (fun F' G' sp sd W h => by rw [hL, hTL]; exact h.blk)
  have hblk := HBW.out _ _ _ _ _ h
  obtain ⟨hb0, hb1, hb2, hb3⟩ := HB.out _ hblk
  obtain ⟨q0, q1, q2, q3, q4, q5⟩ := HC.out _ h.cb
  have hLn : ¬ (0 : Int) < (L : Int) := by omega
  have hI : (⟨#[110, 111, 110, 101]⟩ : ByteArray) = idOf ids key := by unfold idOf; rw [if_pos hi0]
  obtain ⟨hx0, hx1, hx2', hx3, hx4, hx5⟩ := HC.out (w.alloc (.cells (acts 2 key old dom (.slice va n vc) (.slice ma ml mc)) 49)) (by rw [← hw1]; exact h.cb)
  obtain ⟨hy0, hy1, hy2, hy3⟩ := HB.out (w.alloc (.cells (acts 2 key old dom (.slice va n vc) (.slice ma ml mc)) 49)) (by rw [← hw1]; exact hblk)
  have HII := Lib.hid hI
  have HI0 := Lib.hid hi0
  have H2 := Lib.hid h
  have G2 : Hid (w1.grownBy w1 none) := Lib.hid (grown_refl _ _)
  clear hw1 h hE hLd hL hTL hI i2 hv hv0 hvn hm hm0 hml hn2 hml2 hd hN hks hbk hil htl hidz hblk hi0 hR htp t2 i3 t3
  go_enter Tryd.func15, Tryd.ntmps15
  go_wp2
  rw [← HW1.out]
  clear hx0 hx1 hx2' hx3 hx4 hx5 hy0 hy1 hy2 hy3
  obtain ⟨w2, hw2⟩ : ∃ w2, w2 = w1 := ⟨_, rfl⟩
  subst hw2
  go_wp2
  obtain ⟨w3, hw3⟩ : ∃ w3, w3 = w2 := ⟨_, rfl⟩
  subst hw3
  have G3 := Lib.hid G2.out
  have H3 := Lib.hid H2.out
  clear q0 q1 q2 q3 q4 q5 hb0 hb1 hb2 hb3
  have hres : Hid (∀ W, w3.grownBy W none → PS W0 p w.heap.size b m F G J (.slice ia ids.length ic) (.slice ta told.length tc) us (acts 2 key old dom (.slice va n vc) (.slice ma ml mc)) s s ids told W) := Lib.hid (fun W hW => H3.out.still hW)
  have hVf : ∀ W, w3.grownBy W none → Calls Tryd.prog 21 #[.pointer (some ⟨b, 0, none⟩), .string ⟨#[110, 111, 110, 101]⟩, .string dom, .slice ma ml mc, .slice va n vc] W fun e w' => e = .returned (errOf A R) ∧ W.grownBy w' none := fun W hW => by
    have hp := hres.out W hW
    have hcall := pgVerify hp.hp HE.out HLd.out (idOf ids key) dom HIZ.out (by have := HN.out; omega) ma mc msg (by have := HMl.out; have := HN.out; omega) (by rw [HMl.out]; exact HM.out.grown hp.hp.base) (by rw [HMl.out]; exact HM0.out) va vc sg HSG.out.1 (by rw [HSG.out.2]; exact (HV.out.grown (grown_trans HB1.out (grown_trans G3.out hW))))
    rw [← HII.out, HMl.out, HSG.out.2, HII.out, HR0.out] at hcall
    rw [HII.out]
    exact hcall
  have hNf : ∀ W, w3.grownBy W none → Calls Tryd.prog 11 #[errOf A R] W fun e w' => e = .returned (.int .i64 (R : Int)) ∧ W.grownBy w' none := fun W hW => num_of A R HR28.out W (HE.out.grown (hres.out W hW).hp.base)
  have hRf : ∀ W, w3.grownBy W none → Calls Tryd.prog 28 #[.pointer (some ⟨m, 0, none⟩), .string ⟨#[110, 111, 110, 101]⟩, .string dom, .slice ma ml mc, .slice va n vc] W fun e w' => e = .returned (.int .i64 (R : Int)) ∧ W.grownBy w' none := fun W hW => by
    have hp := hres.out W hW
    have hcall := rgVerify hp.hr hp.hp.good (idOf ids key) dom (by have := HN.out; omega) ma ml mc msg (HM.out.grown hp.hr.base) HM0.out (.slice va n vc) sg (HV.out.grown (grown_trans HB1.out (grown_trans G3.out hW))) (by have := HN.out; omega) (by have := HN.out; omega)
    rw [HR0.out] at hcall
    rw [HII.out]
    exact hcall
  refine kd_region23 _ p w.heap.size b m R ⟨#[110, 111, 110, 101]⟩ dom (errOf A R) ma va ml mc n vc w3 w3 _ rfl rfl rfl rfl rfl (fun W hW => (HB.out _ (HBW.out _ _ _ _ _ (hres.out W hW))).1) (fun W hW => (HB.out _ (HBW.out _ _ _ _ _ (hres.out W hW))).2.1) (fun W hW => (HC.out _ (hres.out W hW).cb).2.2.2.1) (fun W hW => (HC.out _ (hres.out W hW).cb).2.2.2.2.2) hVf hNf hRf ⟨rfl, rfl, rfl, Nat.le_refl _, fun _ _ _ => rfl⟩ (fun us9 w9 hg9 => ?_)
  simp only [kfill_cons, kfill_nil, Act.put, List.setIfInBounds_toArray, List.set_cons_succ, List.set_cons_zero]
  have H9 := Lib.hid (hres.out w9 hg9)
  clear hg9 hVf hNf hRf
  go_wp2
  go_ret
  exact DoOut.same H9.out HN.out.2.1 HN.out.2.2.1 HN.out.2.2.2.1 HN.out.2.2.2.2.1
set_option maxRecDepth 100000 in
set_option maxHeartbeats 2000000 in
theorem do_ver2_n (A : Nat → Addr) (W0 w : World) (p b m N : Nat) (F G J : Nat → Prop) (iv tv : Value) (us : List Value) (s : Rg) (ids : List ByteArray) (told : List (List Nat)) (key old : Int) (dom : ByteArray) (va : Option Addr) (n vc : Nat) (ma : Option Addr) (ml mc : Nat) (bs msg : List Nat)
    (h : PS W0 p w.heap.size b m F G J iv tv us (acts 2 key old dom (.slice va n vc) (.slice ma ml mc)) s s ids told (w.alloc (.cells (acts 2 key old dom (.slice va n vc) (.slice ma ml mc)) 49)))
    (hE : AllErrs W0 A) (hLd : Laid W0) (hv : Bytes W0 (.slice va n vc) bs) (hv0 : Whole0 (.slice va n vc)) (hvn : bs.length = n) (hm : Bytes W0 (.slice ma ml mc) msg) (hm0 : Whole0 (.slice ma ml mc)) (hml : msg.length = ml) (hn2 : n ≤ 200) (hml2 : ml ≤ 200) (hd : dom.size ≤ 100) (hN : N ≤ 100) (hks : s.ks.length ≤ N) (hbk : s.bk.length ≤ N) (hil : ids.length ≤ N) (htl : told.length ≤ N) (hi0 : 0 < ids.length) (htp : told.length = 0) :
    Calls Tryd.prog 15 #[.pointer (some ⟨p, 0, none⟩), .agg (acts 2 key old dom (.slice va n vc) (.slice ma ml mc))] w fun e w' => DoOut W0 p w.heap.size (acts 2 key old dom (.slice va n vc) (.slice ma ml mc)) N e w' := by
  obtain ⟨w1, hw1⟩ : ∃ w1, w1 = w.alloc (.cells (acts 2 key old dom (.slice va n vc) (.slice ma ml mc)) 49) := ⟨_, rfl⟩
  have HW1 := Lib.hid hw1
  rw [← hw1] at h
  have HH := Lib.hid h
  have HE := Lib.hid hE
  have HLd := Lib.hid hLd
  have HV := Lib.hid hv
  have HV0 := Lib.hid hv0
  have HVn := Lib.hid hvn
  have HM := Lib.hid hm
  have HM0 := Lib.hid hm0
  have HMl := Lib.hid hml
  have HN := Lib.hid (show N ≤ 100 ∧ s.ks.length ≤ N ∧ s.bk.length ≤ N ∧ ids.length ≤ N ∧ told.length ≤ N ∧ n ≤ 200 ∧ ml ≤ 200 ∧ dom.size ≤ 100 from ⟨hN, hks, hbk, hil, htl, hn2, hml2, hd⟩)
  have HC : Hid (∀ W : World, W.heap[w.heap.size]? = some (.cells (acts 2 key old dom (.slice va n vc) (.slice ma ml mc)) 49 (0, 0)) → W.cell? ⟨w.heap.size, 0, none⟩ = some (.int .i64 2) ∧ W.cell? ⟨w.heap.size, 1, none⟩ = some (.int .i64 key) ∧ W.cell? ⟨w.heap.size, 2, none⟩ = some (.int .i64 old) ∧ W.cell? ⟨w.heap.size, 3, none⟩ = some (.string dom) ∧ W.cell? ⟨w.heap.size, 4, none⟩ = some (.slice va n vc) ∧ W.cell? ⟨w.heap.size, 5, none⟩ = some (.slice ma ml mc)) := Lib.hid (fun W hW => ⟨cell_blk hW 0 rfl, cell_blk hW 1 rfl, cell_blk hW 2 rfl, cell_blk hW 3 rfl, cell_blk hW 4 rfl, cell_blk hW 5 rfl⟩)
  have hidz := idOf_size (fun id hid => (h.kn id hid).2) key
  have HIZ : Hid ((idOf ids key).size ≤ 1000) := Lib.hid hidz
  obtain ⟨_, ia, ig, io, ic, hiv, i2, i3⟩ := h.rows.now.1
  obtain ⟨_, ta, tg, tof, tc, htv, t2, t3⟩ := h.rows.now.2.1
  subst hiv
  subst htv
  obtain ⟨sg, hsg⟩ : ∃ sg, sg = bs := ⟨_, rfl⟩
  obtain ⟨R, hR⟩ : ∃ R, R = verE s (idOf ids key) dom msg sg := ⟨_, rfl⟩
  have HR0 : Hid (verE s (idOf ids key) dom msg sg = R) := Lib.hid hR.symm
  have HR28 : Hid (R ≤ 28) := Lib.hid (by rw [hR]; exact verE_le _ _ _ _ _)
  have HB1 : Hid (W0.grownBy w1 none) := Lib.hid h.hp.base
  have HSG : Hid (sg.length ≤ 1152921504606846976 ∧ sg.length = n) := Lib.hid ⟨by rw [hsg, hvn]; omega, by rw [hsg, hvn]⟩
  subst hsg
  have HTP := Lib.hid htp
  obtain ⟨L, hL⟩ : ∃ L, L = ids.length := ⟨_, rfl⟩
  obtain ⟨TL, hTL⟩ : ∃ TL, TL = told.length := ⟨_, rfl⟩
  have hTn : ¬ (0 : Int) < (TL : Int) := by omega
  have HLL : Hid (L = ids.length ∧ TL = told.length) := Lib.hid ⟨hL, hTL⟩
  have HB : Hid (∀ W : World, W.heap[p]? = some (.cells #[.pointer (some ⟨b, 0, none⟩), .pointer (some ⟨m, 0, none⟩), .slice ia L ic, .slice ta TL tc] 47 (0, 0)) → W.cell? ⟨p, 0, none⟩ = some (.pointer (some ⟨b, 0, none⟩)) ∧ W.cell? ⟨p, 1, none⟩ = some (.pointer (some ⟨m, 0, none⟩)) ∧ W.cell? ⟨p, 2, none⟩ = some (.slice ia L ic) ∧ W.cell? ⟨p, 3, none⟩ = some (.slice ta TL tc)) := Lib.hid (fun W hW => ⟨cell_blk hW 0 rfl, cell_blk hW 1 rfl, cell_blk hW 2 rfl, cell_blk hW 3 rfl⟩)
  have HBW : Hid (∀ (F' G' : Nat → Prop) (sp sd : Rg) (W : World), PS W0 p w.heap.size b m F' G' J (.slice ia ids.length ic) (.slice ta told.length tc) us (acts 2 key old dom (.slice va n vc) (.slice ma ml mc)) sp sd ids told W → W.heap[p]? = some (.cells #[.pointer (some ⟨b, 0, none⟩), .pointer (some ⟨m, 0, none⟩), .slice ia L ic, .slice ta TL tc] 47 (0, 0))) := Lib.hid (fun F' G' sp sd W h => by rw [hL, hTL]; exact h.blk)
  have hblk := HBW.out _ _ _ _ _ h
  obtain ⟨hb0, hb1, hb2, hb3⟩ := HB.out _ hblk
  obtain ⟨q0, q1, q2, q3, q4, q5⟩ := HC.out _ h.cb
  obtain ⟨j, hj⟩ : ∃ j, j = (key % 18446744073709551616).toNat % ids.length := ⟨_, rfl⟩
  have hjL : j < L := by rw [hj, hL]; exact Nat.mod_lt _ hi0
  obtain ⟨rfl, igl⟩ := i2 hi0
  obtain ⟨I, hI⟩ : ∃ I, I = idOf ids key := ⟨_, rfl⟩
  have ej := i3 j (.string I) (by
    rw [hI]
    unfold idOf
    rw [if_neg (by omega), ← hj, List.getElem?_map, List.getD_eq_getElem?_getD, List.getElem?_eq_getElem (by omega)]; rfl)
  have hw64 := u64n (n := ids.length) (by omega)
  have hidx := idx_eq key (n := ids.length) (by omega) hi0
  rw [← hj, ← hL] at hidx
  rw [← hL] at hw64
  have hL0 : ¬ (L : Int) = 0 := by omega
  have hLg : (0 : Int) < (L : Int) := by omega
  have hjL' : (j : Int) < (L : Int) := by omega
  have hj0 : (0 : Int) ≤ (j : Int) := by omega
  have hx2 : (w.alloc (.cells (acts 2 key old dom (.slice va n vc) (.slice ma ml mc)) 49)).cell? ⟨p, 2, none⟩ = some (.slice (some ⟨ig, io, none⟩) L ic) := by rw [← hw1]; exact hb2
  have HII : Hid (I = idOf ids key) := Lib.hid hI
  have HI0 := Lib.hid hi0
  clear hw1 h hE hLd hL hTL hj hI i2 hv hv0 hvn hm hm0 hml hn2 hml2 hd hN hks hbk hil htl hidz hblk hi0 hR htp t2 i3 t3
  go_enter Tryd.func15, Tryd.ntmps15
  go_wp2
  rw [← HW1.out]
  go_quiet (fail)
  obtain ⟨w2, hw2⟩ : ∃ w2, w2 = w1.drewN nq := ⟨_, rfl⟩
  rw [← hw2]
  have G2 : Hid (w1.grownBy w2 none) := Lib.hid (by rw [hw2]; exact grown_drewN (grown_refl _ _) _)
  have H2 := Lib.hid (HH.out.still G2.out)
  clear hw2 hb0 hb1 hb2 hb3 q0 q1 q2 q3 q4 q5 ej hidx hw64 hx2 hjL hjL' hj0 hL0 hLg
  obtain ⟨q0, q1, q2, q3, q4, q5⟩ := HC.out _ H2.out.cb
  obtain ⟨hb0, hb1, hb2, hb3⟩ := HB.out _ (HBW.out _ _ _ _ _ H2.out)
  go_wp2
  obtain ⟨w3, hw3⟩ : ∃ w3, w3 = w2 := ⟨_, rfl⟩
  subst hw3
  have G3 := Lib.hid G2.out
  have H3 := Lib.hid H2.out
  clear q0 q1 q2 q3 q4 q5 hb0 hb1 hb2 hb3
  have hres : Hid (∀ W, w3.grownBy W none → PS W0 p w.heap.size b m F G J (.slice (some ⟨ig, io, none⟩) ids.length ic) (.slice ta told.length tc) us (acts 2 key old dom (.slice va n vc) (.slice ma ml mc)) s s ids told W) := Lib.hid (fun W hW => H3.out.still hW)
  have hVf : ∀ W, w3.grownBy W none → Calls Tryd.prog 21 #[.pointer (some ⟨b, 0, none⟩), .string I, .string dom, .slice ma ml mc, .slice va n vc] W fun e w' => e = .returned (errOf A R) ∧ W.grownBy w' none := fun W hW => by
    have hp := hres.out W hW
    have hcall := pgVerify hp.hp HE.out HLd.out (idOf ids key) dom HIZ.out (by have := HN.out; omega) ma mc msg (by have := HMl.out; have := HN.out; omega) (by rw [HMl.out]; exact HM.out.grown hp.hp.base) (by rw [HMl.out]; exact HM0.out) va vc sg HSG.out.1 (by rw [HSG.out.2]; exact (HV.out.grown (grown_trans HB1.out (grown_trans G3.out hW))))
    rw [← HII.out, HMl.out, HSG.out.2, HII.out, HR0.out] at hcall
    rw [HII.out]
    exact hcall
  have hNf : ∀ W, w3.grownBy W none → Calls Tryd.prog 11 #[errOf A R] W fun e w' => e = .returned (.int .i64 (R : Int)) ∧ W.grownBy w' none := fun W hW => num_of A R HR28.out W (HE.out.grown (hres.out W hW).hp.base)
  have hRf : ∀ W, w3.grownBy W none → Calls Tryd.prog 28 #[.pointer (some ⟨m, 0, none⟩), .string I, .string dom, .slice ma ml mc, .slice va n vc] W fun e w' => e = .returned (.int .i64 (R : Int)) ∧ W.grownBy w' none := fun W hW => by
    have hp := hres.out W hW
    have hcall := rgVerify hp.hr hp.hp.good (idOf ids key) dom (by have := HN.out; omega) ma ml mc msg (HM.out.grown hp.hr.base) HM0.out (.slice va n vc) sg (HV.out.grown (grown_trans HB1.out (grown_trans G3.out hW))) (by have := HN.out; omega) (by have := HN.out; omega)
    rw [HR0.out] at hcall
    rw [HII.out]
    exact hcall
  refine kd_region23 _ p w.heap.size b m R I dom (errOf A R) ma va ml mc n vc w3 w3 _ rfl rfl rfl rfl rfl (fun W hW => (HB.out _ (HBW.out _ _ _ _ _ (hres.out W hW))).1) (fun W hW => (HB.out _ (HBW.out _ _ _ _ _ (hres.out W hW))).2.1) (fun W hW => (HC.out _ (hres.out W hW).cb).2.2.2.1) (fun W hW => (HC.out _ (hres.out W hW).cb).2.2.2.2.2) hVf hNf hRf ⟨rfl, rfl, rfl, Nat.le_refl _, fun _ _ _ => rfl⟩ (fun us9 w9 hg9 => ?_)
  simp only [kfill_cons, kfill_nil, Act.put, List.setIfInBounds_toArray, List.set_cons_succ, List.set_cons_zero]
  have H9 := Lib.hid (hres.out w9 hg9)
  clear hg9 hVf hNf hRf
  go_wp2
  go_ret
  exact DoOut.same H9.out HN.out.2.1 HN.out.2.2.1 HN.out.2.2.2.1 HN.out.2.2.2.2.1
set_option maxRecDepth 100000 in
set_option maxHeartbeats 2000000 in
theorem do_verT_e (A : Nat → Addr) (W0 w : World) (p b m N : Nat) (F G J : Nat → Prop) (iv tv : Value) (us : List Value) (s : Rg) (ids : List ByteArray) (told : List (List Nat)) (key old : Int) (dom : ByteArray) (va : Option Addr) (n vc : Nat) (ma : Option Addr) (ml mc : Nat) (bs msg : List Nat)
    (h : PS W0 p w.heap.size b m F G J iv tv us (acts 2 key old dom (.slice va n vc) (.slice ma ml mc)) s s ids told (w.alloc (.cells (acts 2 key old dom (.slice va n vc) (.slice ma ml mc)) 49)))
    (hE : AllErrs W0 A) (hLd : Laid W0) (hv : Bytes W0 (.slice va n vc) bs) (hv0 : Whole0 (.slice va n vc)) (hvn : bs.length = n) (hm : Bytes W0 (.slice ma ml mc) msg) (hm0 : Whole0 (.slice ma ml mc)) (hml : msg.length = ml) (hn2 : n ≤ 200) (hml2 : ml ≤ 200) (hd : dom.size ≤ 100) (hN : N ≤ 100) (hks : s.ks.length ≤ N) (hbk : s.bk.length ≤ N) (hil : ids.length ≤ N) (htl : told.length ≤ N) (hi0 : ids.length = 0) (htp : 0 < told.length) :
    Calls Tryd.prog 15 #[.pointer (some ⟨p, 0, none⟩), .agg (acts 2 key old dom (.slice va n vc) (.slice ma ml mc))] w fun e w' => DoOut W0 p w.heap.size (acts 2 key old dom (.slice va n vc) (.slice ma ml mc)) N e w' := by
  obtain ⟨w1, hw1⟩ : ∃ w1, w1 = w.alloc (.cells (acts 2 key old dom (.slice va n vc) (.slice ma ml mc)) 49) := ⟨_, rfl⟩
  have HW1 := Lib.hid hw1
  rw [← hw1] at h
  have HH := Lib.hid h
  have HE := Lib.hid hE
  have HLd := Lib.hid hLd
  have HV := Lib.hid hv
  have HV0 := Lib.hid hv0
  have HVn := Lib.hid hvn
  have HM := Lib.hid hm
  have HM0 := Lib.hid hm0
  have HMl := Lib.hid hml
  have HN := Lib.hid (show N ≤ 100 ∧ s.ks.length ≤ N ∧ s.bk.length ≤ N ∧ ids.length ≤ N ∧ told.length ≤ N ∧ n ≤ 200 ∧ ml ≤ 200 ∧ dom.size ≤ 100 from ⟨hN, hks, hbk, hil, htl, hn2, hml2, hd⟩)
  have HC : Hid (∀ W : World, W.heap[w.heap.size]? = some (.cells (acts 2 key old dom (.slice va n vc) (.slice ma ml mc)) 49 (0, 0)) → W.cell? ⟨w.heap.size, 0, none⟩ = some (.int .i64 2) ∧ W.cell? ⟨w.heap.size, 1, none⟩ = some (.int .i64 key) ∧ W.cell? ⟨w.heap.size, 2, none⟩ = some (.int .i64 old) ∧ W.cell? ⟨w.heap.size, 3, none⟩ = some (.string dom) ∧ W.cell? ⟨w.heap.size, 4, none⟩ = some (.slice va n vc) ∧ W.cell? ⟨w.heap.size, 5, none⟩ = some (.slice ma ml mc)) := Lib.hid (fun W hW => ⟨cell_blk hW 0 rfl, cell_blk hW 1 rfl, cell_blk hW 2 rfl, cell_blk hW 3 rfl, cell_blk hW 4 rfl, cell_blk hW 5 rfl⟩)
  have hidz := idOf_size (fun id hid => (h.kn id hid).2) key
  have HIZ : Hid ((idOf ids key).size ≤ 1000) := Lib.hid hidz
  obtain ⟨_, ia, ig, io, ic, hiv, i2, i3⟩ := h.rows.now.1
  obtain ⟨_, ta, tg, tof, tc, htv, t2, t3⟩ := h.rows.now.2.1
  subst hiv
  subst htv
  obtain ⟨rfl, tgl⟩ := t2 htp
  obtain ⟨sg, hsg⟩ : ∃ sg, sg = (told.getD ((old % 18446744073709551616).toNat % told.length) []) := ⟨_, rfl⟩
  obtain ⟨R, hR⟩ : ∃ R, R = verE s (idOf ids key) dom msg sg := ⟨_, rfl⟩
  have HR0 : Hid (verE s (idOf ids key) dom msg sg = R) := Lib.hid hR.symm
  have HR28 : Hid (R ≤ 28) := Lib.hid (by rw [hR]; exact verE_le _ _ _ _ _)
  have HB1 : Hid (W0.grownBy w1 none) := Lib.hid h.hp.base
  obtain ⟨tj, htj⟩ : ∃ tj, tj = (old % 18446744073709551616).toNat % told.length := ⟨_, rfl⟩
  have htjL : tj < told.length := by rw [htj]; exact Nat.mod_lt _ htp
  obtain ⟨sa, sc, hsu, hsB, hs32⟩ := h.told_get htjL
  have hte := t3 tj _ hsu
  rw [htj, ← hsg] at hsB hs32
  have HSB := Lib.hid hsB
  have HSG : Hid (sg.length ≤ 1152921504606846976 ∧ sg.length = 32) := Lib.hid ⟨by omega, hs32⟩
  have HTE : Hid (∀ W, w1.grownBy W none → W.cell? ⟨tg, tof + tj, none⟩ = some (.slice sa 32 sc)) := Lib.hid (fun W hW => by rw [World.cell?_of_block (hW.block tg tgl (by simp))]; exact hte)
  obtain ⟨L, hL⟩ : ∃ L, L = ids.length := ⟨_, rfl⟩
  obtain ⟨TL, hTL⟩ : ∃ TL, TL = told.length := ⟨_, rfl⟩
  have htw64 := u64n (n := told.length) (by omega)
  have htidx := idx_eq old (n := told.length) (by omega) htp
  rw [← htj, ← hTL] at htidx
  rw [← hTL] at htw64
  have HTF := Lib.hid (show _ ∧ _ ∧ ¬ (TL : Int) = 0 ∧ (0 : Int) < (TL : Int) ∧ (tj : Int) < (TL : Int) ∧ (0 : Int) ≤ (tj : Int) from ⟨htw64, htidx, by omega, by omega, by omega, by omega⟩)
  clear htw64 htidx
  have htg : (0 : Int) < (TL : Int) := by omega
  have HLL : Hid (L = ids.length ∧ TL = told.length) := Lib.hid ⟨hL, hTL⟩
  have HB : Hid (∀ W : World, W.heap[p]? = some (.cells #[.pointer (some ⟨b, 0, none⟩), .pointer (some ⟨m, 0, none⟩), .slice ia L ic, .slice (some ⟨tg, tof, none⟩) TL tc] 47 (0, 0)) → W.cell? ⟨p, 0, none⟩ = some (.pointer (some ⟨b, 0, none⟩)) ∧ W.cell? ⟨p, 1, none⟩ = some (.pointer (some ⟨m, 0, none⟩)) ∧ W.cell? ⟨p, 2, none⟩ = some (.slice ia L ic) ∧ W.cell? ⟨p, 3, none⟩ = some (.slice (some ⟨tg, tof, none⟩) TL tc)) := Lib.hid (fun W hW => ⟨cell_blk hW 0 rfl, cell_blk hW 1 rfl, cell_blk hW 2 rfl, cell_blk hW 3 rfl⟩)
  have HBW : Hid (∀ (F' G' : Nat → Prop) (sp sd : Rg) (W : World), PS W0 p w.heap.size b m F' G' J (.slice ia ids.length ic) (.slice (some ⟨tg, tof, none⟩) told.length tc) us (acts 2 key old dom (.slice va n vc) (.slice ma ml mc)) sp sd ids told W → W.heap[p]? = some (.cells #[.pointer (some ⟨b, 0, none⟩), .pointer (some ⟨m, 0, none⟩), .slice ia L ic, .slice (some ⟨tg, tof, none⟩) TL tc] 47 (0, 0))) := Lib.hid (fun F' G' sp sd W h => by rw [hL, hTL]; exact h.blk)
  have hblk := HBW.out _ _ _ _ _ h
  obtain ⟨hb0, hb1, hb2, hb3⟩ := HB.out _ hblk
  obtain ⟨q0, q1, q2, q3, q4, q5⟩ := HC.out _ h.cb
  have hLn : ¬ (0 : Int) < (L : Int) := by omega
  have hI : (⟨#[110, 111, 110, 101]⟩ : ByteArray) = idOf ids key := by unfold idOf; rw [if_pos hi0]
  obtain ⟨hx0, hx1, hx2', hx3, hx4, hx5⟩ := HC.out (w.alloc (.cells (acts 2 key old dom (.slice va n vc) (.slice ma ml mc)) 49)) (by rw [← hw1]; exact h.cb)
  obtain ⟨hy0, hy1, hy2, hy3⟩ := HB.out (w.alloc (.cells (acts 2 key old dom (.slice va n vc) (.slice ma ml mc)) 49)) (by rw [← hw1]; exact hblk)
  have HII := Lib.hid hI
  have HI0 := Lib.hid hi0
  have H2 := Lib.hid h
  have G2 : Hid (w1.grownBy w1 none) := Lib.hid (grown_refl _ _)
  clear hw1 h hE hLd hL hTL hI i2 hv hv0 hvn hm hm0 hml hn2 hml2 hd hN hks hbk hil htl hidz hblk hi0 hR htp hsg tgl htjL hsu hsB hs32 hte htj t2 i3 t3
  go_enter Tryd.func15, Tryd.ntmps15
  go_wp2
  rw [← HW1.out]
  clear hx0 hx1 hx2' hx3 hx4 hx5 hy0 hy1 hy2 hy3
  obtain ⟨w2, hw2⟩ : ∃ w2, w2 = w1 := ⟨_, rfl⟩
  subst hw2
  have te := HTE.out _ G2.out
  obtain ⟨htw64, htidx, ht0, htg', htj1, htj0⟩ := HTF.out
  go_wp2
  go_quiet (fail)
  obtain ⟨w3, hw3⟩ : ∃ w3, w3 = w2.drewN nq := ⟨_, rfl⟩
  rw [← hw3]
  have G23 : w2.grownBy w3 none := by rw [hw3]; exact grown_drewN (grown_refl _ _) _
  have G3 := Lib.hid (grown_trans G2.out G23)
  have H3 := Lib.hid (H2.out.still G23)
  clear G23
  clear hw3 te htw64 htidx ht0 htg' htj1 htj0
  go_wp2
  clear q0 q1 q2 q3 q4 q5 hb0 hb1 hb2 hb3
  have hres : Hid (∀ W, w3.grownBy W none → PS W0 p w.heap.size b m F G J (.slice ia ids.length ic) (.slice (some ⟨tg, tof, none⟩) told.length tc) us (acts 2 key old dom (.slice va n vc) (.slice ma ml mc)) s s ids told W) := Lib.hid (fun W hW => H3.out.still hW)
  have hVf : ∀ W, w3.grownBy W none → Calls Tryd.prog 21 #[.pointer (some ⟨b, 0, none⟩), .string ⟨#[110, 111, 110, 101]⟩, .string dom, .slice ma ml mc, .slice sa 32 sc] W fun e w' => e = .returned (errOf A R) ∧ W.grownBy w' none := fun W hW => by
    have hp := hres.out W hW
    have hcall := pgVerify hp.hp HE.out HLd.out (idOf ids key) dom HIZ.out (by have := HN.out; omega) ma mc msg (by have := HMl.out; have := HN.out; omega) (by rw [HMl.out]; exact HM.out.grown hp.hp.base) (by rw [HMl.out]; exact HM0.out) sa sc sg HSG.out.1 (by rw [HSG.out.2]; exact (HSB.out.grown (grown_trans G3.out hW)))
    rw [← HII.out, HMl.out, HSG.out.2, HII.out, HR0.out] at hcall
    rw [HII.out]
    exact hcall
  have hNf : ∀ W, w3.grownBy W none → Calls Tryd.prog 11 #[errOf A R] W fun e w' => e = .returned (.int .i64 (R : Int)) ∧ W.grownBy w' none := fun W hW => num_of A R HR28.out W (HE.out.grown (hres.out W hW).hp.base)
  have hRf : ∀ W, w3.grownBy W none → Calls Tryd.prog 28 #[.pointer (some ⟨m, 0, none⟩), .string ⟨#[110, 111, 110, 101]⟩, .string dom, .slice ma ml mc, .slice sa 32 sc] W fun e w' => e = .returned (.int .i64 (R : Int)) ∧ W.grownBy w' none := fun W hW => by
    have hp := hres.out W hW
    have hcall := rgVerify hp.hr hp.hp.good (idOf ids key) dom (by have := HN.out; omega) ma ml mc msg (HM.out.grown hp.hr.base) HM0.out (.slice sa 32 sc) sg (HSB.out.grown (grown_trans G3.out hW)) (by have := HN.out; omega) (by have := HN.out; omega)
    rw [HR0.out] at hcall
    rw [HII.out]
    exact hcall
  refine kd_region23 _ p w.heap.size b m R ⟨#[110, 111, 110, 101]⟩ dom (errOf A R) ma sa ml mc 32 sc w3 w3 _ rfl rfl rfl rfl rfl (fun W hW => (HB.out _ (HBW.out _ _ _ _ _ (hres.out W hW))).1) (fun W hW => (HB.out _ (HBW.out _ _ _ _ _ (hres.out W hW))).2.1) (fun W hW => (HC.out _ (hres.out W hW).cb).2.2.2.1) (fun W hW => (HC.out _ (hres.out W hW).cb).2.2.2.2.2) hVf hNf hRf ⟨rfl, rfl, rfl, Nat.le_refl _, fun _ _ _ => rfl⟩ (fun us9 w9 hg9 => ?_)
  simp only [kfill_cons, kfill_nil, Act.put, List.setIfInBounds_toArray, List.set_cons_succ, List.set_cons_zero]
  have H9 := Lib.hid (hres.out w9 hg9)
  clear hg9 hVf hNf hRf
  go_wp2
  go_ret
  exact DoOut.same H9.out HN.out.2.1 HN.out.2.2.1 HN.out.2.2.2.1 HN.out.2.2.2.2.1
set_option maxRecDepth 100000 in
set_option maxHeartbeats 2000000 in
theorem do_verT_n (A : Nat → Addr) (W0 w : World) (p b m N : Nat) (F G J : Nat → Prop) (iv tv : Value) (us : List Value) (s : Rg) (ids : List ByteArray) (told : List (List Nat)) (key old : Int) (dom : ByteArray) (va : Option Addr) (n vc : Nat) (ma : Option Addr) (ml mc : Nat) (bs msg : List Nat)
    (h : PS W0 p w.heap.size b m F G J iv tv us (acts 2 key old dom (.slice va n vc) (.slice ma ml mc)) s s ids told (w.alloc (.cells (acts 2 key old dom (.slice va n vc) (.slice ma ml mc)) 49)))
    (hE : AllErrs W0 A) (hLd : Laid W0) (hv : Bytes W0 (.slice va n vc) bs) (hv0 : Whole0 (.slice va n vc)) (hvn : bs.length = n) (hm : Bytes W0 (.slice ma ml mc) msg) (hm0 : Whole0 (.slice ma ml mc)) (hml : msg.length = ml) (hn2 : n ≤ 200) (hml2 : ml ≤ 200) (hd : dom.size ≤ 100) (hN : N ≤ 100) (hks : s.ks.length ≤ N) (hbk : s.bk.length ≤ N) (hil : ids.length ≤ N) (htl : told.length ≤ N) (hi0 : 0 < ids.length) (htp : 0 < told.length) :
    Calls Tryd.prog 15 #[.pointer (some ⟨p, 0, none⟩), .agg (acts 2 key old dom (.slice va n vc) (.slice ma ml mc))] w fun e w' => DoOut W0 p w.heap.size (acts 2 key old dom (.slice va n vc) (.slice ma ml mc)) N e w' := by
  obtain ⟨w1, hw1⟩ : ∃ w1, w1 = w.alloc (.cells (acts 2 key old dom (.slice va n vc) (.slice ma ml mc)) 49) := ⟨_, rfl⟩
  have HW1 := Lib.hid hw1
  rw [← hw1] at h
  have HH := Lib.hid h
  have HE := Lib.hid hE
  have HLd := Lib.hid hLd
  have HV := Lib.hid hv
  have HV0 := Lib.hid hv0
  have HVn := Lib.hid hvn
  have HM := Lib.hid hm
  have HM0 := Lib.hid hm0
  have HMl := Lib.hid hml
  have HN := Lib.hid (show N ≤ 100 ∧ s.ks.length ≤ N ∧ s.bk.length ≤ N ∧ ids.length ≤ N ∧ told.length ≤ N ∧ n ≤ 200 ∧ ml ≤ 200 ∧ dom.size ≤ 100 from ⟨hN, hks, hbk, hil, htl, hn2, hml2, hd⟩)
  have HC : Hid (∀ W : World, W.heap[w.heap.size]? = some (.cells (acts 2 key old dom (.slice va n vc) (.slice ma ml mc)) 49 (0, 0)) → W.cell? ⟨w.heap.size, 0, none⟩ = some (.int .i64 2) ∧ W.cell? ⟨w.heap.size, 1, none⟩ = some (.int .i64 key) ∧ W.cell? ⟨w.heap.size, 2, none⟩ = some (.int .i64 old) ∧ W.cell? ⟨w.heap.size, 3, none⟩ = some (.string dom) ∧ W.cell? ⟨w.heap.size, 4, none⟩ = some (.slice va n vc) ∧ W.cell? ⟨w.heap.size, 5, none⟩ = some (.slice ma ml mc)) := Lib.hid (fun W hW => ⟨cell_blk hW 0 rfl, cell_blk hW 1 rfl, cell_blk hW 2 rfl, cell_blk hW 3 rfl, cell_blk hW 4 rfl, cell_blk hW 5 rfl⟩)
  have hidz := idOf_size (fun id hid => (h.kn id hid).2) key
  have HIZ : Hid ((idOf ids key).size ≤ 1000) := Lib.hid hidz
  obtain ⟨_, ia, ig, io, ic, hiv, i2, i3⟩ := h.rows.now.1
  obtain ⟨_, ta, tg, tof, tc, htv, t2, t3⟩ := h.rows.now.2.1
  subst hiv
  subst htv
  obtain ⟨rfl, tgl⟩ := t2 htp
  obtain ⟨sg, hsg⟩ : ∃ sg, sg = (told.getD ((old % 18446744073709551616).toNat % told.length) []) := ⟨_, rfl⟩
  obtain ⟨R, hR⟩ : ∃ R, R = verE s (idOf ids key) dom msg sg := ⟨_, rfl⟩
  have HR0 : Hid (verE s (idOf ids key) dom msg sg = R) := Lib.hid hR.symm
  have HR28 : Hid (R ≤ 28) := Lib.hid (by rw [hR]; exact verE_le _ _ _ _ _)
  have HB1 : Hid (W0.grownBy w1 none) := Lib.hid h.hp.base
  obtain ⟨tj, htj⟩ : ∃ tj, tj = (old % 18446744073709551616).toNat % told.length := ⟨_, rfl⟩
  have htjL : tj < told.length := by rw [htj]; exact Nat.mod_lt _ htp
  obtain ⟨sa, sc, hsu, hsB, hs32⟩ := h.told_get htjL
  have hte := t3 tj _ hsu
  rw [htj, ← hsg] at hsB hs32
  have HSB := Lib.hid hsB
  have HSG : Hid (sg.length ≤ 1152921504606846976 ∧ sg.length = 32) := Lib.hid ⟨by omega, hs32⟩
  have HTE : Hid (∀ W, w1.grownBy W none → W.cell? ⟨tg, tof + tj, none⟩ = some (.slice sa 32 sc)) := Lib.hid (fun W hW => by rw [World.cell?_of_block (hW.block tg tgl (by simp))]; exact hte)
  obtain ⟨L, hL⟩ : ∃ L, L = ids.length := ⟨_, rfl⟩
  obtain ⟨TL, hTL⟩ : ∃ TL, TL = told.length := ⟨_, rfl⟩
  have htw64 := u64n (n := told.length) (by omega)
  have htidx := idx_eq old (n := told.length) (by omega) htp
  rw [← htj, ← hTL] at htidx
  rw [← hTL] at htw64
  have HTF := Lib.hid (show _ ∧ _ ∧ ¬ (TL : Int) = 0 ∧ (0 : Int) < (TL : Int) ∧ (tj : Int) < (TL : Int) ∧ (0 : Int) ≤ (tj : Int) from ⟨htw64, htidx, by omega, by omega, by omega, by omega⟩)
  clear htw64 htidx
  have htg : (0 : Int) < (TL : Int) := by omega
  have HLL : Hid (L = ids.length ∧ TL = told.length) := Lib.hid ⟨hL, hTL⟩
  have HB : Hid (∀ W : World, W.heap[p]? = some (.cells #[.pointer (some ⟨b, 0, none⟩), .pointer (some ⟨m, 0, none⟩), .slice ia L ic, .slice (some ⟨tg, tof, none⟩) TL tc] 47 (0, 0)) → W.cell? ⟨p, 0, none⟩ = some (.pointer (some ⟨b, 0, none⟩)) ∧ W.cell? ⟨p, 1, none⟩ = some (.pointer (some ⟨m, 0, none⟩)) ∧ W.cell? ⟨p, 2, none⟩ = some (.slice ia L ic) ∧ W.cell? ⟨p, 3, none⟩ = some (.slice (some ⟨tg, tof, none⟩) TL tc)) := Lib.hid (fun W hW => ⟨cell_blk hW 0 rfl, cell_blk hW 1 rfl, cell_blk hW 2 rfl, cell_blk hW 3 rfl⟩)
  have HBW : Hid (∀ (F' G' : Nat → Prop) (sp sd : Rg) (W : World), PS W0 p w.heap.size b m F' G' J (.slice ia ids.length ic) (.slice (some ⟨tg, tof, none⟩) told.length tc) us (acts 2 key old dom (.slice va n vc) (.slice ma ml mc)) sp sd ids told W → W.heap[p]? = some (.cells #[.pointer (some ⟨b, 0, none⟩), .pointer (some ⟨m, 0, none⟩), .slice ia L ic, .slice (some ⟨tg, tof, none⟩) TL tc] 47 (0, 0))) := Lib.hid (fun F' G' sp sd W h => by rw [hL, hTL]; exact h.blk)
  have hblk := HBW.out _ _ _ _ _ h
  obtain ⟨hb0, hb1, hb2, hb3⟩ := HB.out _ hblk
  obtain ⟨q0, q1, q2, q3, q4, q5⟩ := HC.out _ h.cb
  obtain ⟨j, hj⟩ : ∃ j, j = (key % 18446744073709551616).toNat % ids.length := ⟨_, rfl⟩
  have hjL : j < L := by rw [hj, hL]; exact Nat.mod_lt _ hi0
  obtain ⟨rfl, igl⟩ := i2 hi0
  obtain ⟨I, hI⟩ : ∃ I, I = idOf ids key := ⟨_, rfl⟩
  have ej := i3 j (.string I) (by
    rw [hI]
    unfold idOf
    rw [if_neg (by omega), ← hj, List.getElem?_map, List.getD_eq_getElem?_getD, List.getElem?_eq_getElem (by omega)]; rfl)
  have hw64 := u64n (n := ids.length) (by omega)
  have hidx := idx_eq key (n := ids.length) (by omega) hi0
  rw [← hj, ← hL] at hidx
  rw [← hL] at hw64
  have hL0 : ¬ (L : Int) = 0 := by omega
  have hLg : (0 : Int) < (L : Int) := by omega
  have hjL' : (j : Int) < (L : Int) := by omega
  have hj0 : (0 : Int) ≤ (j : Int) := by omega
  have hx2 : (w.alloc (.cells (acts 2 key old dom (.slice va n vc) (.slice ma ml mc)) 49)).cell? ⟨p, 2, none⟩ = some (.slice (some ⟨ig, io, none⟩) L ic) := by rw [← hw1]; exact hb2
  have HII : Hid (I = idOf ids key) := Lib.hid hI
  have HI0 := Lib.hid hi0
  clear hw1 h hE hLd hL hTL hj hI i2 hv hv0 hvn hm hm0 hml hn2 hml2 hd hN hks hbk hil htl hidz hblk hi0 hR htp hsg tgl htjL hsu hsB hs32 hte htj t2 i3 t3
  go_enter Tryd.func15, Tryd.ntmps15
  go_wp2
  rw [← HW1.out]
  go_quiet (fail)
  obtain ⟨w2, hw2⟩ : ∃ w2, w2 = w1.drewN nq := ⟨_, rfl⟩
  rw [← hw2]
  have G2 : Hid (w1.grownBy w2 none) := Lib.hid (by rw [hw2]; exact grown_drewN (grown_refl _ _) _)
  have H2 := Lib.hid (HH.out.still G2.out)
  clear hw2 hb0 hb1 hb2 hb3 q0 q1 q2 q3 q4 q5 ej hidx hw64 hx2 hjL hjL' hj0 hL0 hLg
  obtain ⟨q0, q1, q2, q3, q4, q5⟩ := HC.out _ H2.out.cb
  obtain ⟨hb0, hb1, hb2, hb3⟩ := HB.out _ (HBW.out _ _ _ _ _ H2.out)
  have te := HTE.out _ G2.out
  obtain ⟨htw64, htidx, ht0, htg', htj1, htj0⟩ := HTF.out
  go_wp2
  go_quiet (fail)
  obtain ⟨w3, hw3⟩ : ∃ w3, w3 = w2.drewN nq := ⟨_, rfl⟩
  rw [← hw3]
  have G23 : w2.grownBy w3 none := by rw [hw3]; exact grown_drewN (grown_refl _ _) _
  have G3 := Lib.hid (grown_trans G2.out G23)
  have H3 := Lib.hid (H2.out.still G23)
  clear G23
  clear hw3 te htw64 htidx ht0 htg' htj1 htj0
  go_wp2
  clear q0 q1 q2 q3 q4 q5 hb0 hb1 hb2 hb3
  have hres : Hid (∀ W, w3.grownBy W none → PS W0 p w.heap.size b m F G J (.slice (some ⟨ig, io, none⟩) ids.length ic) (.slice (some ⟨tg, tof, none⟩) told.length tc) us (acts 2 key old dom (.slice va n vc) (.slice ma ml mc)) s s ids told W) := Lib.hid (fun W hW => H3.out.still hW)
  have hVf : ∀ W, w3.grownBy W none → Calls Tryd.prog 21 #[.pointer (some ⟨b, 0, none⟩), .string I, .string dom, .slice ma ml mc, .slice sa 32 sc] W fun e w' => e = .returned (errOf A R) ∧ W.grownBy w' none := fun W hW => by
    have hp := hres.out W hW
    have hcall := pgVerify hp.hp HE.out HLd.out (idOf ids key) dom HIZ.out (by have := HN.out; omega) ma mc msg (by have := HMl.out; have := HN.out; omega) (by rw [HMl.out]; exact HM.out.grown hp.hp.base) (by rw [HMl.out]; exact HM0.out) sa sc sg HSG.out.1 (by rw [HSG.out.2]; exact (HSB.out.grown (grown_trans G3.out hW)))
    rw [← HII.out, HMl.out, HSG.out.2, HII.out, HR0.out] at hcall
    rw [HII.out]
    exact hcall
  have hNf : ∀ W, w3.grownBy W none → Calls Tryd.prog 11 #[errOf A R] W fun e w' => e = .returned (.int .i64 (R : Int)) ∧ W.grownBy w' none := fun W hW => num_of A R HR28.out W (HE.out.grown (hres.out W hW).hp.base)
  have hRf : ∀ W, w3.grownBy W none → Calls Tryd.prog 28 #[.pointer (some ⟨m, 0, none⟩), .string I, .string dom, .slice ma ml mc, .slice sa 32 sc] W fun e w' => e = .returned (.int .i64 (R : Int)) ∧ W.grownBy w' none := fun W hW => by
    have hp := hres.out W hW
    have hcall := rgVerify hp.hr hp.hp.good (idOf ids key) dom (by have := HN.out; omega) ma ml mc msg (HM.out.grown hp.hr.base) HM0.out (.slice sa 32 sc) sg (HSB.out.grown (grown_trans G3.out hW)) (by have := HN.out; omega) (by have := HN.out; omega)
    rw [HR0.out] at hcall
    rw [HII.out]
    exact hcall
  refine kd_region23 _ p w.heap.size b m R I dom (errOf A R) ma sa ml mc 32 sc w3 w3 _ rfl rfl rfl rfl rfl (fun W hW => (HB.out _ (HBW.out _ _ _ _ _ (hres.out W hW))).1) (fun W hW => (HB.out _ (HBW.out _ _ _ _ _ (hres.out W hW))).2.1) (fun W hW => (HC.out _ (hres.out W hW).cb).2.2.2.1) (fun W hW => (HC.out _ (hres.out W hW).cb).2.2.2.2.2) hVf hNf hRf ⟨rfl, rfl, rfl, Nat.le_refl _, fun _ _ _ => rfl⟩ (fun us9 w9 hg9 => ?_)
  simp only [kfill_cons, kfill_nil, Act.put, List.setIfInBounds_toArray, List.set_cons_succ, List.set_cons_zero]
  have H9 := Lib.hid (hres.out w9 hg9)
  clear hg9 hVf hNf hRf
  go_wp2
  go_ret
  exact DoOut.same H9.out HN.out.2.1 HN.out.2.2.1 HN.out.2.2.2.1 HN.out.2.2.2.2.1
end Go.Proofs.YtgdnndapmcjoeaaDoor
