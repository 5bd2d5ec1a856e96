import Derived.Test.YtgdnndapmcjoeaaDoorKe41
namespace Go.Proofs.YtgdnndapmcjoeaaDoor
open Go.RowKit Go.Maps
set_option linter.unusedVariables false
set_option maxRecDepth 100000 in
set_option maxHeartbeats 2000000 in
theorem do_add_e (A : Nat → Addr) (W0 w : World) (p b m N : Nat) (F G J : Nat → Prop) (iv tv : Value) (us : List Value) (s : Rg) (ids : List ByteArray) (told : List (List Nat)) (key old : Int) (dom : ByteArray) (va : Option Addr) (vc : Nat) (ma : Option Addr) (ml mc : Nat) (bs msg : List Nat)
    (h : PS W0 p w.heap.size b m F G J iv tv us (acts 0 key old dom (.slice va 32 vc) (.slice ma ml mc)) s s ids told (w.alloc (.cells (acts 0 key old dom (.slice va 32 vc) (.slice ma ml mc)) 49)))
    (hE : AllErrs W0 A) (hLd : Laid W0) (hv : Bytes W0 (.slice va 32 vc) bs) (hv0 : Whole0 (.slice va 32 vc)) (hvn : bs.length = 32) (hm : Bytes W0 (.slice ma ml mc) msg) (hm0 : Whole0 (.slice ma ml mc)) (hml : msg.length = ml) (hml2 : ml ≤ 200) (hd : dom.size ≤ 100) (hN : N ≤ 100) (hks : s.ks.length ≤ N) (hbk : s.bk.length ≤ N) (hil : ids.length ≤ N) (htl : told.length ≤ N) (hi0 : ids.length = 0) :
    Calls Tryd.prog 15 #[.pointer (some ⟨p, 0, none⟩), .agg (acts 0 key old dom (.slice va 32 vc) (.slice ma ml mc))] w fun e w' => DoOut W0 p w.heap.size (acts 0 key old dom (.slice va 32 vc) (.slice ma ml mc)) N e w' := by
  obtain ⟨w1, hw1⟩ : ∃ w1, w1 = w.alloc (.cells (acts 0 key old dom (.slice va 32 vc) (.slice ma ml mc)) 49) := ⟨_, rfl⟩
  have HW1 := Lib.hid hw1
  rw [← hw1] at h
  have HH := Lib.hid h
  have HE := Lib.hid hE
  have HLd := Lib.hid hLd
  have HV := Lib.hid hv
  have HV0 := Lib.hid hv0
  have HVn := Lib.hid hvn
  have HM := Lib.hid hm
  have HM0 := Lib.hid hm0
  have HMl := Lib.hid hml
  have HN := Lib.hid (show N ≤ 100 ∧ s.ks.length ≤ N ∧ s.bk.length ≤ N ∧ ids.length ≤ N ∧ told.length ≤ N ∧ True ∧ ml ≤ 200 ∧ dom.size ≤ 100 from ⟨hN, hks, hbk, hil, htl, trivial, hml2, hd⟩)
  have HC : Hid (∀ W : World, W.heap[w.heap.size]? = some (.cells (acts 0 key old dom (.slice va 32 vc) (.slice ma ml mc)) 49 (0, 0)) → W.cell? ⟨w.heap.size, 0, none⟩ = some (.int .i64 0) ∧ W.cell? ⟨w.heap.size, 1, none⟩ = some (.int .i64 key) ∧ W.cell? ⟨w.heap.size, 2, none⟩ = some (.int .i64 old) ∧ W.cell? ⟨w.heap.size, 3, none⟩ = some (.string dom) ∧ W.cell? ⟨w.heap.size, 4, none⟩ = some (.slice va 32 vc) ∧ W.cell? ⟨w.heap.size, 5, none⟩ = some (.slice ma ml mc)) := Lib.hid (fun W hW => ⟨cell_blk hW 0 rfl, cell_blk hW 1 rfl, cell_blk hW 2 rfl, cell_blk hW 3 rfl, cell_blk hW 4 rfl, cell_blk hW 5 rfl⟩)
  have hidz := idOf_size (fun id hid => (h.kn id hid).2) key
  have HIZ : Hid ((idOf ids key).size ≤ 1000) := Lib.hid hidz
  obtain ⟨_, ia, ig, io, ic, hiv, i2, i3⟩ := h.rows.now.1
  obtain ⟨_, ta, tg, tof, tc, htv, t2, t3⟩ := h.rows.now.2.1
  subst hiv
  subst htv
  obtain ⟨L, hL⟩ : ∃ L, L = ids.length := ⟨_, rfl⟩
  obtain ⟨TL, hTL⟩ : ∃ TL, TL = told.length := ⟨_, rfl⟩
  have HLL : Hid (L = ids.length ∧ TL = told.length) := Lib.hid ⟨hL, hTL⟩
  have HB : Hid (∀ W : World, W.heap[p]? = some (.cells #[.pointer (some ⟨b, 0, none⟩), .pointer (some ⟨m, 0, none⟩), .slice ia L ic, .slice ta TL tc] 47 (0, 0)) → W.cell? ⟨p, 0, none⟩ = some (.pointer (some ⟨b, 0, none⟩)) ∧ W.cell? ⟨p, 1, none⟩ = some (.pointer (some ⟨m, 0, none⟩)) ∧ W.cell? ⟨p, 2, none⟩ = some (.slice ia L ic) ∧ W.cell? ⟨p, 3, none⟩ = some (.slice ta TL tc)) := Lib.hid (fun W hW => ⟨cell_blk hW 0 rfl, cell_blk hW 1 rfl, cell_blk hW 2 rfl, cell_blk hW 3 rfl⟩)
  have HBW : Hid (∀ (F' G' : Nat → Prop) (sp sd : Rg) (W : World), PS W0 p w.heap.size b m F' G' J (.slice ia ids.length ic) (.slice ta told.length tc) us (acts 0 key old dom (.slice va 32 vc) (.slice ma ml mc)) sp sd ids told W → W.heap[p]? = some (.cells #[.pointer (some ⟨b, 0, none⟩), .pointer (some ⟨m, 0, none⟩), .slice ia L ic, .slice ta TL tc] 47 (0, 0))) := Lib.hid (fun F' G' sp sd W h => by rw [hL, hTL]; exact h.blk)
  have hblk := HBW.out _ _ _ _ _ h
  obtain ⟨hb0, hb1, hb2, hb3⟩ := HB.out _ hblk
  obtain ⟨q0, q1, q2, q3, q4, q5⟩ := HC.out _ h.cb
  have hLn : ¬ (0 : Int) < (L : Int) := by omega
  have hI : (⟨#[110, 111, 110, 101]⟩ : ByteArray) = idOf ids key := by unfold idOf; rw [if_pos hi0]
  obtain ⟨hx0, hx1, hx2', hx3, hx4, hx5⟩ := HC.out (w.alloc (.cells (acts 0 key old dom (.slice va 32 vc) (.slice ma ml mc)) 49)) (by rw [← hw1]; exact h.cb)
  obtain ⟨hy0, hy1, hy2, hy3⟩ := HB.out (w.alloc (.cells (acts 0 key old dom (.slice va 32 vc) (.slice ma ml mc)) 49)) (by rw [← hw1]; exact hblk)
  have HII := Lib.hid hI
  have HI0 := Lib.hid hi0
  have H2 := Lib.hid h
  have G2 : Hid (w1.grownBy w1 none) := Lib.hid (grown_refl _ _)
  clear hw1 h hE hLd hL hTL hI i2 hv hv0 hvn hm hm0 hml hml2 hd hN hks hbk hil htl hidz hblk hi0 t2 i3 t3
  go_enter Tryd.func15, Tryd.ntmps15
  go_wp2
  rw [← HW1.out]
  clear hx0 hx1 hx2' hx3 hx4 hx5 hy0 hy1 hy2 hy3
  obtain ⟨w2, hw2⟩ : ∃ w2, w2 = w1 := ⟨_, rfl⟩
  subst hw2
  have HSA : Hid (∀ k, (s.get (idText k)).isSome = true ∨ True) := Lib.hid (fun k => .inr trivial)
  obtain ⟨I0, hI0⟩ : ∃ I0, I0 = idText bs := ⟨_, rfl⟩
  have HI00 := Lib.hid hI0
  have HAd : Hid (∀ n, Calls Tryd.prog 18 #[.pointer (some ⟨b, 0, none⟩), .slice va 32 vc] (w2.drewN n) fun e w' => e = .returned (.tuple #[.string I0, .nilIface]) ∧ ∃ F', PS W0 p w.heap.size b m F' G J (.slice ia ids.length ic) (.slice ta told.length tc) us (acts 0 key old dom (.slice va 32 vc) (.slice ma ml mc)) (s.add I0 bs) s ids told w') := Lib.hid (fun n => by
    have hp := H2.out.still (grown_drewN (grown_refl w2 none) n)
    have hcall := pgAdd hp.hp HE.out HLd.out va vc bs HVn.out (fun W hW => HV.out.grown (hW.base hp.hp.base (fun k hk => (hp.hp.own k hk).1)))
    rw [← hI0] at hcall
    exact hcall.mono (fun e w' ⟨he, F', ht, hp'⟩ => ⟨he, F', hp.turnF ht hp'⟩))
  clear hI0
  go_wp2
  refine go_start (by kernel_rfl) (go_seg (fun w' => ∃ n, w' = w2.drewN n) 6 (by kernel_rfl) ⟨1, rfl⟩ ?_)
  simp only [List.drop_succ_cons, List.drop_zero, Nat.sub_zero, Nat.reduceSub, List.take_succ_cons, List.take_zero]
  repeat (go_big_quiet_step (fail))
  refine wpQuiet_nil ?_
  rintro _ ⟨n3, rfl⟩
  refine go_one (by kernel_rfl) _ rfl ?_
  go_wp2_with (go_at_call 18; refine (HAd.out _).mono ?_; rintro e w3 ⟨rfl, F3, hp3⟩; have H3 := Lib.hid hp3; clear hp3)
  refine go_seg (fun w' => ∃ n, w' = w3.drewN n) 12 (by kernel_rfl) ⟨0, rfl⟩ ?_
  simp only [List.drop_succ_cons, List.drop_zero, Nat.sub_zero, Nat.reduceSub, List.take_succ_cons, List.take_zero]
  repeat (go_big_quiet_step (fail))
  refine wpQuiet_nil ?_
  rintro _ ⟨n4, rfl⟩
  refine go_end ?_
  obtain ⟨w4, hww4⟩ : ∃ w4, w4 = w3.drewN n4 := ⟨_, rfl⟩
  rw [← hww4]
  have H4 := Lib.hid (H3.out.still (show w3.grownBy w4 none by rw [hww4]; exact grown_drewN (grown_refl _ _) _))
  clear hww4
  clear q0 q1 q2 q3 q4 q5 hb0 hb1 hb2 hb3
  obtain ⟨q0, q1, q2, q3, q4, q5⟩ := HC.out _ H4.out.cb
  obtain ⟨hb0, hb1, hb2, hb3⟩ := HB.out _ (HBW.out _ _ _ _ _ H4.out)
  go_wp2
  have HRA : Hid (∀ n, Calls Tryd.prog 23 #[.pointer (some ⟨m, 0, none⟩), .slice va 32 vc] (w4.drewN n) fun e w' => e = .returned (.string I0) ∧ ∃ G', PS W0 p w.heap.size b m F3 G' J (.slice ia ids.length ic) (.slice ta told.length tc) us (acts 0 key old dom (.slice va 32 vc) (.slice ma ml mc)) (s.add I0 bs) (s.add I0 bs) ids told w') := Lib.hid (fun n => by
    have hp := H4.out.still (grown_drewN (grown_refl w4 none) n)
    have hgs : GoodG s := H2.out.hp.good
    have hcall := rgAdd hp.hr hgs va vc bs (HV.out.grown hp.hr.base) HV0.out HVn.out (by have := HN.out; omega)
    rw [← HI00.out] at hcall
    exact hcall.mono (fun e w' ⟨he, hu, hr'⟩ => ⟨he, _, hp.turnG hu hr' (fun id hid => by
      obtain ⟨k0, hk0⟩ := Option.isSome_iff_exists.1 (H2.out.kn id hid).1
      rw [Rg.get_add_keep hk0]; rfl)⟩))
  refine go_start (by kernel_rfl) (go_seg (fun w' => ∃ n, w' = w4.drewN n) 6 (by kernel_rfl) ⟨1, rfl⟩ ?_)
  simp only [List.drop_succ_cons, List.drop_zero, Nat.sub_zero, Nat.reduceSub, List.take_succ_cons, List.take_zero]
  repeat (go_big_quiet_step (fail))
  refine wpQuiet_nil ?_
  rintro _ ⟨n3, rfl⟩
  refine go_one (by kernel_rfl) _ rfl ?_
  go_wp2_with (go_at_call 23; refine (HRA.out _).mono ?_; rintro e w5 ⟨rfl, G5, hp5⟩; have H5 := Lib.hid hp5; clear hp5)
  refine go_seg (fun w' => ∃ n, w' = w5.drewN n) 8 (by kernel_rfl) ⟨0, rfl⟩ ?_
  simp only [List.drop_succ_cons, List.drop_zero, Nat.sub_zero, Nat.reduceSub, List.take_succ_cons, List.take_zero]
  repeat (go_big_quiet_step (fail))
  refine wpQuiet_nil ?_
  rintro _ ⟨n4, rfl⟩
  refine go_end ?_
  obtain ⟨w6, hww6⟩ : ∃ w6, w6 = w5.drewN n4 := ⟨_, rfl⟩
  rw [← hww6]
  have H6 := Lib.hid (H5.out.still (show w5.grownBy w6 none by rw [hww6]; exact grown_drewN (grown_refl _ _) _))
  clear hww6
  clear q0 q1 q2 q3 q4 q5 hb0 hb1 hb2 hb3
  have hb2 : (w6.alloc (.cells #[] 9)).cell? ⟨p, 2, none⟩ = some (.slice ia L ic) := (HB.out _ (alloc_keep (HBW.out _ _ _ _ _ H6.out))).2.2.1
  have HSI := Lib.hid kStrInfo
  have HRow : Hid (∀ W, w6.grownBy W none → RowV W (.slice ia L ic) 1 L (ids.map Value.string)) := Lib.hid (fun W hW => by rw [HLL.out.1]; exact H6.out.rows.now.1.grown hW)
  have HW0i : Hid (Whole0 (.slice ia L ic)) := Lib.hid (by rw [HLL.out.1]; exact H6.out.w0.1)
  have hpl := Lib.hid (blk_lt H6.out.blk)
  have hk0 : ((s.add I0 bs).get I0).isSome = true ∧ I0.size = 32 := ⟨Rg.add_isSome, by rw [HI00.out]; exact id_size _⟩
  have HK0 := Lib.hid hk0
  have HHx : Hid (∀ (F' G' J' : Nat → Prop) (iv' : Value) (ids' : List ByteArray) (W : World), PS W0 p w.heap.size b m F' G' J' iv' (.slice ta told.length tc) us (acts 0 key old dom (.slice va 32 vc) (.slice ma ml mc)) (s.add I0 bs) (s.add I0 bs) ids' told W → Calls Tryd.prog 17 #[.pointer (some ⟨b, 0, none⟩), .string I0] W fun e w' => e = .returned (.bool true) ∧ W.grownBy w' none) := Lib.hid (fun F' G' J' iv' ids' W h => by
    have := pgHas h.hp I0 (by omega)
    rw [hk0.1] at this
    exact this)
  clear hk0
  go_wp2_with (first
    | (obtain ⟨w7, hw7⟩ : ∃ w7, w7 = w6.alloc (.cells #[] 9) := ⟨_, rfl⟩
       rw [← hw7]
       have g7 : w6.grownBy w7 none := (by rw [hw7]; exact World.grownBy_alloc _ _ _)
       have G7 := Lib.hid g7
       have O7 : Hid (w7.ownsRow w6.heap.size 9 1 (.slice (some ⟨w6.heap.size, 0, none⟩) 0 0) 0 []) := Lib.hid (own_emptyN (by rw [hw7]; exact alloc_at _ _) (Nat.le_refl _))
       clear hw7 g7 hb2
       refine wpList_appN3 (by rfl) (.tmp 71) (.tmp 75) 44 (by rfl) w6.heap.size 9 _ 1 16 Tryd.underlying44 HSI.out rfl (by decide) (by decide) _ 0 [] (by rfl) O7.out _ L (ids.map Value.string) (by rfl) (HRow.out _ G7.out) HW0i.out (by intro y hy; obtain ⟨x, _, rfl⟩ := List.mem_map.1 hy; rfl) (by have := HN.out; have := HLL.out; omega) G7.out.size ?_
       intro v8 w8 ho8 hg8 _
       rw [Nat.zero_add, List.nil_append] at ho8
       have O8 := Lib.hid ho8
       have G8 : Hid (w6.grownBy w8 none) := Lib.hid (grown_own G7.out O7.out (Nat.le_refl _) hg8)
       clear ho8 hg8)
    | (obtain ⟨w9, hw9⟩ : ∃ w9, w9 = w8.alloc (.cells #[.string I0] 9) := ⟨_, rfl⟩
       rw [← hw9]
       have g9 : w8.grownBy w9 none := (by rw [hw9]; exact World.grownBy_alloc _ _ _)
       have b9 : w9.heap[w8.heap.size]? = some (.cells #[.string I0] 9 (0, 0)) := (by rw [hw9]; exact alloc_at _ _)
       clear hw9
       refine wpList_appN2 (by rfl) (.tmp 76) (.tmp 78) 44 (by rfl) w6.heap.size 9 _ 1 16 Tryd.underlying44 HSI.out rfl (by decide) (by decide) _ L (ids.map Value.string) (by rfl) (O8.out.kept g9 (Classical.em _)) ⟨w8.heap.size, 0, none⟩ 1 1 [.string I0] (by rfl) rfl (by intro j u hj; rw [addr_addO, Nat.zero_add]; exact cell_blk b9 j (by simpa using hj)) (by intro u hu; simp at hu; rw [hu]; rfl) (by have := HN.out; have := HLL.out; omega) (Nat.le_trans G8.out.size g9.size) ?_
       intro v10 w10 ho10 hg10 _
       obtain ⟨a10, g10, c10, rfl, -⟩ := own_formN ho10
       have O10 := Lib.hid ho10
       have G10 : Hid (w6.grownBy w10 none) := Lib.hid (grown_own (grown_trans G8.out g9) (O8.out.kept g9 (Classical.em _)) (Nat.le_refl _) hg10)
       clear ho10 hg10 g9 b9)
    | (have hX := there_blk ((G10.out.block _ hpl.out (by simp)).trans H6.out.blk) 2 1 (by show 2 + 1 ≤ 4; decide)
       refine wpList_store_c (by rfl) 44 (.tmp 81) (.tmp 79) (by rfl) p 2 (.slice a10 (L + 1) c10) (by rfl) (by rfl) hX (by kernel_rfl) (by rfl) ?_
       clear hX
       obtain ⟨w11, hw11⟩ : ∃ w11, w11 = w10.setCell ⟨p, 2, none⟩ (.slice a10 (L + 1) c10) := ⟨_, rfl⟩
       rw [← hw11]
       have H11 := Lib.hid (right_row H6.out G10.out O10.out HLL.out.1 hw11 HK0.out)
       have HHas := Lib.hid (HHx.out _ _ _ _ _ _ H11.out)
       have hb0 : w11.cell? ⟨p, 0, none⟩ = some (.pointer (some ⟨b, 0, none⟩)) := cell_blk H11.out.blk 0 rfl
       have hbe : (I0.toList == I0.toList) = true := beq_self_eq_true _
       clear hw11)
    | (go_at_call 17; refine HHas.out.mono ?_; rintro e w12 ⟨rfl, hg12⟩; have G12 := Lib.hid hg12; clear hg12))
  go_ret
  exact DoOut.mk (H11.out.still G12.out) (Nat.le_trans Rg.add_len (Nat.succ_le_succ HN.out.2.1)) (by rw [Rg.add_bk]; have := HN.out; omega) (by rw [List.length_append]; have := HN.out; simp; omega) (by have := HN.out; omega)
set_option maxRecDepth 100000 in
set_option maxHeartbeats 2000000 in
theorem do_add_n (A : Nat → Addr) (W0 w : World) (p b m N : Nat) (F G J : Nat → Prop) (iv tv : Value) (us : List Value) (s : Rg) (ids : List ByteArray) (told : List (List Nat)) (key old : Int) (dom : ByteArray) (va : Option Addr) (vc : Nat) (ma : Option Addr) (ml mc : Nat) (bs msg : List Nat)
    (h : PS W0 p w.heap.size b m F G J iv tv us (acts 0 key old dom (.slice va 32 vc) (.slice ma ml mc)) s s ids told (w.alloc (.cells (acts 0 key old dom (.slice va 32 vc) (.slice ma ml mc)) 49)))
    (hE : AllErrs W0 A) (hLd : Laid W0) (hv : Bytes W0 (.slice va 32 vc) bs) (hv0 : Whole0 (.slice va 32 vc)) (hvn : bs.length = 32) (hm : Bytes W0 (.slice ma ml mc) msg) (hm0 : Whole0 (.slice ma ml mc)) (hml : msg.length = ml) (hml2 : ml ≤ 200) (hd : dom.size ≤ 100) (hN : N ≤ 100) (hks : s.ks.length ≤ N) (hbk : s.bk.length ≤ N) (hil : ids.length ≤ N) (htl : told.length ≤ N) (hi0 : 0 < ids.length) :
    Calls Tryd.prog 15 #[.pointer (some ⟨p, 0, none⟩), .agg (acts 0 key old dom (.slice va 32 vc) (.slice ma ml mc))] w fun e w' => DoOut W0 p w.heap.size (acts 0 key old dom (.slice va 32 vc) (.slice ma ml mc)) N e w' := by
  obtain ⟨w1, hw1⟩ : ∃ w1, w1 = w.alloc (.cells (acts 0 key old dom (.slice va 32 vc) (.slice ma ml mc)) 49) := ⟨_, rfl⟩
  have HW1 := Lib.hid hw1
  rw [← hw1] at h
  have HH := Lib.hid h
  have HE := Lib.hid hE
  have HLd := Lib.hid hLd
  have HV := Lib.hid hv
  have HV0 := Lib.hid hv0
  have HVn := Lib.hid hvn
  have HM := Lib.hid hm
  have HM0 := Lib.hid hm0
  have HMl := Lib.hid hml
  have HN := Lib.hid (show N ≤ 100 ∧ s.ks.length ≤ N ∧ s.bk.length ≤ N ∧ ids.length ≤ N ∧ told.length ≤ N ∧ True ∧ ml ≤ 200 ∧ dom.size ≤ 100 from ⟨hN, hks, hbk, hil, htl, trivial, hml2, hd⟩)
  have HC : Hid (∀ W : World, W.heap[w.heap.size]? = some (.cells (acts 0 key old dom (.slice va 32 vc) (.slice ma ml mc)) 49 (0, 0)) → W.cell? ⟨w.heap.size, 0, none⟩ = some (.int .i64 0) ∧ W.cell? ⟨w.heap.size, 1, none⟩ = some (.int .i64 key) ∧ W.cell? ⟨w.heap.size, 2, none⟩ = some (.int .i64 old) ∧ W.cell? ⟨w.heap.size, 3, none⟩ = some (.string dom) ∧ W.cell? ⟨w.heap.size, 4, none⟩ = some (.slice va 32 vc) ∧ W.cell? ⟨w.heap.size, 5, none⟩ = some (.slice ma ml mc)) := Lib.hid (fun W hW => ⟨cell_blk hW 0 rfl, cell_blk hW 1 rfl, cell_blk hW 2 rfl, cell_blk hW 3 rfl, cell_blk hW 4 rfl, cell_blk hW 5 rfl⟩)
  have hidz := idOf_size (fun id hid => (h.kn id hid).2) key
  have HIZ : Hid ((idOf ids key).size ≤ 1000) := Lib.hid hidz
  obtain ⟨_, ia, ig, io, ic, hiv, i2, i3⟩ := h.rows.now.1
  obtain ⟨_, ta, tg, tof, tc, htv, t2, t3⟩ := h.rows.now.2.1
  subst hiv
  subst htv
  obtain ⟨L, hL⟩ : ∃ L, L = ids.length := ⟨_, rfl⟩
  obtain ⟨TL, hTL⟩ : ∃ TL, TL = told.length := ⟨_, rfl⟩
  have HLL : Hid (L = ids.length ∧ TL = told.length) := Lib.hid ⟨hL, hTL⟩
  have HB : Hid (∀ W : World, W.heap[p]? = some (.cells #[.pointer (some ⟨b, 0, none⟩), .pointer (some ⟨m, 0, none⟩), .slice ia L ic, .slice ta TL tc] 47 (0, 0)) → W.cell? ⟨p, 0, none⟩ = some (.pointer (some ⟨b, 0, none⟩)) ∧ W.cell? ⟨p, 1, none⟩ = some (.pointer (some ⟨m, 0, none⟩)) ∧ W.cell? ⟨p, 2, none⟩ = some (.slice ia L ic) ∧ W.cell? ⟨p, 3, none⟩ = some (.slice ta TL tc)) := Lib.hid (fun W hW => ⟨cell_blk hW 0 rfl, cell_blk hW 1 rfl, cell_blk hW 2 rfl, cell_blk hW 3 rfl⟩)
  have HBW : Hid (∀ (F' G' : Nat → Prop) (sp sd : Rg) (W : World), PS W0 p w.heap.size b m F' G' J (.slice ia ids.length ic) (.slice ta told.length tc) us (acts 0 key old dom (.slice va 32 vc) (.slice ma ml mc)) sp sd ids told W → W.heap[p]? = some (.cells #[.pointer (some ⟨b, 0, none⟩), .pointer (some ⟨m, 0, none⟩), .slice ia L ic, .slice ta TL tc] 47 (0, 0))) := Lib.hid (fun F' G' sp sd W h => by rw [hL, hTL]; exact h.blk)
  have hblk := HBW.out _ _ _ _ _ h
  obtain ⟨hb0, hb1, hb2, hb3⟩ := HB.out _ hblk
  obtain ⟨q0, q1, q2, q3, q4, q5⟩ := HC.out _ h.cb
  obtain ⟨j, hj⟩ : ∃ j, j = (key % 18446744073709551616).toNat % ids.length := ⟨_, rfl⟩
  have hjL : j < L := by rw [hj, hL]; exact Nat.mod_lt _ hi0
  obtain ⟨rfl, igl⟩ := i2 hi0
  obtain ⟨I, hI⟩ : ∃ I, I = idOf ids key := ⟨_, rfl⟩
  have ej := i3 j (.string I) (by
    rw [hI]
    unfold idOf
    rw [if_neg (by omega), ← hj, List.getElem?_map, List.getD_eq_getElem?_getD, List.getElem?_eq_getElem (by omega)]; rfl)
  have hw64 := u64n (n := ids.length) (by omega)
  have hidx := idx_eq key (n := ids.length) (by omega) hi0
  rw [← hj, ← hL] at hidx
  rw [← hL] at hw64
  have hL0 : ¬ (L : Int) = 0 := by omega
  have hLg : (0 : Int) < (L : Int) := by omega
  have hjL' : (j : Int) < (L : Int) := by omega
  have hj0 : (0 : Int) ≤ (j : Int) := by omega
  have hx2 : (w.alloc (.cells (acts 0 key old dom (.slice va 32 vc) (.slice ma ml mc)) 49)).cell? ⟨p, 2, none⟩ = some (.slice (some ⟨ig, io, none⟩) L ic) := by rw [← hw1]; exact hb2
  have HII : Hid (I = idOf ids key) := Lib.hid hI
  have HI0 := Lib.hid hi0
  clear hw1 h hE hLd hL hTL hj hI i2 hv hv0 hvn hm hm0 hml hml2 hd hN hks hbk hil htl hidz hblk hi0 t2 i3 t3
  go_enter Tryd.func15, Tryd.ntmps15
  go_wp2
  rw [← HW1.out]
  go_quiet (fail)
  obtain ⟨w2, hw2⟩ : ∃ w2, w2 = w1.drewN nq := ⟨_, rfl⟩
  rw [← hw2]
  have G2 : Hid (w1.grownBy w2 none) := Lib.hid (by rw [hw2]; exact grown_drewN (grown_refl _ _) _)
  have H2 := Lib.hid (HH.out.still G2.out)
  clear hw2 hb0 hb1 hb2 hb3 q0 q1 q2 q3 q4 q5 ej hidx hw64 hx2 hjL hjL' hj0 hL0 hLg
  obtain ⟨q0, q1, q2, q3, q4, q5⟩ := HC.out _ H2.out.cb
  obtain ⟨hb0, hb1, hb2, hb3⟩ := HB.out _ (HBW.out _ _ _ _ _ H2.out)
  have HSA : Hid (∀ k, (s.get (idText k)).isSome = true ∨ True) := Lib.hid (fun k => .inr trivial)
  obtain ⟨I0, hI0⟩ : ∃ I0, I0 = idText bs := ⟨_, rfl⟩
  have HI00 := Lib.hid hI0
  have HAd : Hid (∀ n, Calls Tryd.prog 18 #[.pointer (some ⟨b, 0, none⟩), .slice va 32 vc] (w2.drewN n) fun e w' => e = .returned (.tuple #[.string I0, .nilIface]) ∧ ∃ F', PS W0 p w.heap.size b m F' G J (.slice (some ⟨ig, io, none⟩) ids.length ic) (.slice ta told.length tc) us (acts 0 key old dom (.slice va 32 vc) (.slice ma ml mc)) (s.add I0 bs) s ids told w') := Lib.hid (fun n => by
    have hp := H2.out.still (grown_drewN (grown_refl w2 none) n)
    have hcall := pgAdd hp.hp HE.out HLd.out va vc bs HVn.out (fun W hW => HV.out.grown (hW.base hp.hp.base (fun k hk => (hp.hp.own k hk).1)))
    rw [← hI0] at hcall
    exact hcall.mono (fun e w' ⟨he, F', ht, hp'⟩ => ⟨he, F', hp.turnF ht hp'⟩))
  clear hI0
  go_wp2
  refine go_start (by kernel_rfl) (go_seg (fun w' => ∃ n, w' = w2.drewN n) 6 (by kernel_rfl) ⟨1, rfl⟩ ?_)
  simp only [List.drop_succ_cons, List.drop_zero, Nat.sub_zero, Nat.reduceSub, List.take_succ_cons, List.take_zero]
  repeat (go_big_quiet_step (fail))
  refine wpQuiet_nil ?_
  rintro _ ⟨n3, rfl⟩
  refine go_one (by kernel_rfl) _ rfl ?_
  go_wp2_with (go_at_call 18; refine (HAd.out _).mono ?_; rintro e w3 ⟨rfl, F3, hp3⟩; have H3 := Lib.hid hp3; clear hp3)
  refine go_seg (fun w' => ∃ n, w' = w3.drewN n) 12 (by kernel_rfl) ⟨0, rfl⟩ ?_
  simp only [List.drop_succ_cons, List.drop_zero, Nat.sub_zero, Nat.reduceSub, List.take_succ_cons, List.take_zero]
  repeat (go_big_quiet_step (fail))
  refine wpQuiet_nil ?_
  rintro _ ⟨n4, rfl⟩
  refine go_end ?_
  obtain ⟨w4, hww4⟩ : ∃ w4, w4 = w3.drewN n4 := ⟨_, rfl⟩
  rw [← hww4]
  have H4 := Lib.hid (H3.out.still (show w3.grownBy w4 none by rw [hww4]; exact grown_drewN (grown_refl _ _) _))
  clear hww4
  clear q0 q1 q2 q3 q4 q5 hb0 hb1 hb2 hb3
  obtain ⟨q0, q1, q2, q3, q4, q5⟩ := HC.out _ H4.out.cb
  obtain ⟨hb0, hb1, hb2, hb3⟩ := HB.out _ (HBW.out _ _ _ _ _ H4.out)
  go_wp2
  have HRA : Hid (∀ n, Calls Tryd.prog 23 #[.pointer (some ⟨m, 0, none⟩), .slice va 32 vc] (w4.drewN n) fun e w' => e = .returned (.string I0) ∧ ∃ G', PS W0 p w.heap.size b m F3 G' J (.slice (some ⟨ig, io, none⟩) ids.length ic) (.slice ta told.length tc) us (acts 0 key old dom (.slice va 32 vc) (.slice ma ml mc)) (s.add I0 bs) (s.add I0 bs) ids told w') := Lib.hid (fun n => by
    have hp := H4.out.still (grown_drewN (grown_refl w4 none) n)
    have hgs : GoodG s := H2.out.hp.good
    have hcall := rgAdd hp.hr hgs va vc bs (HV.out.grown hp.hr.base) HV0.out HVn.out (by have := HN.out; omega)
    rw [← HI00.out] at hcall
    exact hcall.mono (fun e w' ⟨he, hu, hr'⟩ => ⟨he, _, hp.turnG hu hr' (fun id hid => by
      obtain ⟨k0, hk0⟩ := Option.isSome_iff_exists.1 (H2.out.kn id hid).1
      rw [Rg.get_add_keep hk0]; rfl)⟩))
  refine go_start (by kernel_rfl) (go_seg (fun w' => ∃ n, w' = w4.drewN n) 6 (by kernel_rfl) ⟨1, rfl⟩ ?_)
  simp only [List.drop_succ_cons, List.drop_zero, Nat.sub_zero, Nat.reduceSub, List.take_succ_cons, List.take_zero]
  repeat (go_big_quiet_step (fail))
  refine wpQuiet_nil ?_
  rintro _ ⟨n3, rfl⟩
  refine go_one (by kernel_rfl) _ rfl ?_
  go_wp2_with (go_at_call 23; refine (HRA.out _).mono ?_; rintro e w5 ⟨rfl, G5, hp5⟩; have H5 := Lib.hid hp5; clear hp5)
  refine go_seg (fun w' => ∃ n, w' = w5.drewN n) 8 (by kernel_rfl) ⟨0, rfl⟩ ?_
  simp only [List.drop_succ_cons, List.drop_zero, Nat.sub_zero, Nat.reduceSub, List.take_succ_cons, List.take_zero]
  repeat (go_big_quiet_step (fail))
  refine wpQuiet_nil ?_
  rintro _ ⟨n4, rfl⟩
  refine go_end ?_
  obtain ⟨w6, hww6⟩ : ∃ w6, w6 = w5.drewN n4 := ⟨_, rfl⟩
  rw [← hww6]
  have H6 := Lib.hid (H5.out.still (show w5.grownBy w6 none by rw [hww6]; exact grown_drewN (grown_refl _ _) _))
  clear hww6
  clear q0 q1 q2 q3 q4 q5 hb0 hb1 hb2 hb3
  have hb2 : (w6.alloc (.cells #[] 9)).cell? ⟨p, 2, none⟩ = some (.slice (some ⟨ig, io, none⟩) L ic) := (HB.out _ (alloc_keep (HBW.out _ _ _ _ _ H6.out))).2.2.1
  have HSI := Lib.hid kStrInfo
  have HRow : Hid (∀ W, w6.grownBy W none → RowV W (.slice (some ⟨ig, io, none⟩) L ic) 1 L (ids.map Value.string)) := Lib.hid (fun W hW => by rw [HLL.out.1]; exact H6.out.rows.now.1.grown hW)
  have HW0i : Hid (Whole0 (.slice (some ⟨ig, io, none⟩) L ic)) := Lib.hid (by rw [HLL.out.1]; exact H6.out.w0.1)
  have hpl := Lib.hid (blk_lt H6.out.blk)
  have hk0 : ((s.add I0 bs).get I0).isSome = true ∧ I0.size = 32 := ⟨Rg.add_isSome, by rw [HI00.out]; exact id_size _⟩
  have HK0 := Lib.hid hk0
  have HHx : Hid (∀ (F' G' J' : Nat → Prop) (iv' : Value) (ids' : List ByteArray) (W : World), PS W0 p w.heap.size b m F' G' J' iv' (.slice ta told.length tc) us (acts 0 key old dom (.slice va 32 vc) (.slice ma ml mc)) (s.add I0 bs) (s.add I0 bs) ids' told W → Calls Tryd.prog 17 #[.pointer (some ⟨b, 0, none⟩), .string I0] W fun e w' => e = .returned (.bool true) ∧ W.grownBy w' none) := Lib.hid (fun F' G' J' iv' ids' W h => by
    have := pgHas h.hp I0 (by omega)
    rw [hk0.1] at this
    exact this)
  clear hk0
  go_wp2_with (first
    | (obtain ⟨w7, hw7⟩ : ∃ w7, w7 = w6.alloc (.cells #[] 9) := ⟨_, rfl⟩
       rw [← hw7]
       have g7 : w6.grownBy w7 none := (by rw [hw7]; exact World.grownBy_alloc _ _ _)
       have G7 := Lib.hid g7
       have O7 : Hid (w7.ownsRow w6.heap.size 9 1 (.slice (some ⟨w6.heap.size, 0, none⟩) 0 0) 0 []) := Lib.hid (own_emptyN (by rw [hw7]; exact alloc_at _ _) (Nat.le_refl _))
       clear hw7 g7 hb2
       refine wpList_appN3 (by rfl) (.tmp 71) (.tmp 75) 44 (by rfl) w6.heap.size 9 _ 1 16 Tryd.underlying44 HSI.out rfl (by decide) (by decide) _ 0 [] (by rfl) O7.out _ L (ids.map Value.string) (by rfl) (HRow.out _ G7.out) HW0i.out (by intro y hy; obtain ⟨x, _, rfl⟩ := List.mem_map.1 hy; rfl) (by have := HN.out; have := HLL.out; omega) G7.out.size ?_
       intro v8 w8 ho8 hg8 _
       rw [Nat.zero_add, List.nil_append] at ho8
       have O8 := Lib.hid ho8
       have G8 : Hid (w6.grownBy w8 none) := Lib.hid (grown_own G7.out O7.out (Nat.le_refl _) hg8)
       clear ho8 hg8)
    | (obtain ⟨w9, hw9⟩ : ∃ w9, w9 = w8.alloc (.cells #[.string I0] 9) := ⟨_, rfl⟩
       rw [← hw9]
       have g9 : w8.grownBy w9 none := (by rw [hw9]; exact World.grownBy_alloc _ _ _)
       have b9 : w9.heap[w8.heap.size]? = some (.cells #[.string I0] 9 (0, 0)) := (by rw [hw9]; exact alloc_at _ _)
       clear hw9
       refine wpList_appN2 (by rfl) (.tmp 76) (.tmp 78) 44 (by rfl) w6.heap.size 9 _ 1 16 Tryd.underlying44 HSI.out rfl (by decide) (by decide) _ L (ids.map Value.string) (by rfl) (O8.out.kept g9 (Classical.em _)) ⟨w8.heap.size, 0, none⟩ 1 1 [.string I0] (by rfl) rfl (by intro j u hj; rw [addr_addO, Nat.zero_add]; exact cell_blk b9 j (by simpa using hj)) (by intro u hu; simp at hu; rw [hu]; rfl) (by have := HN.out; have := HLL.out; omega) (Nat.le_trans G8.out.size g9.size) ?_
       intro v10 w10 ho10 hg10 _
       obtain ⟨a10, g10, c10, rfl, -⟩ := own_formN ho10
       have O10 := Lib.hid ho10
       have G10 : Hid (w6.grownBy w10 none) := Lib.hid (grown_own (grown_trans G8.out g9) (O8.out.kept g9 (Classical.em _)) (Nat.le_refl _) hg10)
       clear ho10 hg10 g9 b9)
    | (have hX := there_blk ((G10.out.block _ hpl.out (by simp)).trans H6.out.blk) 2 1 (by show 2 + 1 ≤ 4; decide)
       refine wpList_store_c (by rfl) 44 (.tmp 81) (.tmp 79) (by rfl) p 2 (.slice a10 (L + 1) c10) (by rfl) (by rfl) hX (by kernel_rfl) (by rfl) ?_
       clear hX
       obtain ⟨w11, hw11⟩ : ∃ w11, w11 = w10.setCell ⟨p, 2, none⟩ (.slice a10 (L + 1) c10) := ⟨_, rfl⟩
       rw [← hw11]
       have H11 := Lib.hid (right_row H6.out G10.out O10.out HLL.out.1 hw11 HK0.out)
       have HHas := Lib.hid (HHx.out _ _ _ _ _ _ H11.out)
       have hb0 : w11.cell? ⟨p, 0, none⟩ = some (.pointer (some ⟨b, 0, none⟩)) := cell_blk H11.out.blk 0 rfl
       have hbe : (I0.toList == I0.toList) = true := beq_self_eq_true _
       clear hw11)
    | (go_at_call 17; refine HHas.out.mono ?_; rintro e w12 ⟨rfl, hg12⟩; have G12 := Lib.hid hg12; clear hg12))
  go_ret
  exact DoOut.mk (H11.out.still G12.out) (Nat.le_trans Rg.add_len (Nat.succ_le_succ HN.out.2.1)) (by rw [Rg.add_bk]; have := HN.out; omega) (by rw [List.length_append]; have := HN.out; simp; omega) (by have := HN.out; omega)
end Go.Proofs.YtgdnndapmcjoeaaDoor
