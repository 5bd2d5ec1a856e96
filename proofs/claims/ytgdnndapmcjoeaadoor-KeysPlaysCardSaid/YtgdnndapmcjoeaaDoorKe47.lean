import Derived.Test.YtgdnndapmcjoeaaDoorKe41
import Derived.Test.YtgdnndapmcjoeaaDoorKe42
import Derived.Test.YtgdnndapmcjoeaaDoorKe43
import Derived.Test.YtgdnndapmcjoeaaDoorKe44
import Derived.Test.YtgdnndapmcjoeaaDoorKe45
import Derived.Test.YtgdnndapmcjoeaaDoorKe46
namespace Go.Proofs.YtgdnndapmcjoeaaDoor
open Go.RowKit Go.Maps
set_option linter.unusedVariables false
/-- A play, and another ring beside it. -/
structure PSO (W0 : World) (p c b b' m : Nat) (F F' G J : Nat → Prop) (iv tv : Value) (us : List Value) (ac : Array Value) (so s : Rg) (ids : List ByteArray) (told : List (List Nat)) (w : World) : Prop where
  ps : PS W0 p c b' m F' G J iv tv us ac s s ids told w
  old : PrG W0 F b so w
  far : ∀ k, F k → ¬ F' k ∧ ¬ G k ∧ ¬ J k ∧ k ≠ p ∧ k ≠ c ∧ k ≠ m
section
variable {A : Nat → Addr} {W0 w w' : World} {p c b b' m : Nat} {F F' F2 G J : Nat → Prop} {iv tv : Value} {us : List Value} {ac : Array Value} {so s s2 : Rg} {ids : List ByteArray} {told : List (List Nat)}
theorem PSO.turn (h : PSO W0 p c b b' m F F' G J iv tv us ac so s ids told w) (ht : Turn F F2 w w') (ho : PrG W0 F2 b s2 w') : PSO W0 p c b b' m F2 F' G J iv tv us ac s2 s ids told w' := by
  have hu := ht.upto
  have hF : ∀ k, F k → W0.heap.size ≤ k := fun k hk => (h.old.own k hk).1
  have hp := h.ps
  refine ⟨⟨hp.hp.other (G := F) (G' := F2) hF ht (fun k hk => (h.far k hk).1), hp.hr.other hF hu (fun k hk => (h.far k hk).2.1), hp.ap, (hu.block _ (blk_lt hp.blk) (fun hk => (h.far p hk).2.2.2.1 rfl)).trans hp.blk, hp.pF, hp.pG, hp.pb, (hu.block _ (blk_lt hp.cb) (fun hk => (h.far c hk).2.2.2.2.1 rfl)).trans hp.cb, hp.cF, hp.cG, hp.cp, hp.rows.upto hu (fun k hk hf => (h.far k hf).2.2.1 hk), hp.w0, hp.jn, hp.kn, hp.tl⟩, ho, fun k hk => ?_⟩
  by_cases hlt : k < w.heap.size
  · exact h.far k (ht.mine k hlt hk)
  · exact ⟨fun hf => hlt (hp.hp.own k hf).2, fun hg => hlt (hp.hr.lt k hg), fun hj => hlt (hp.rows.lt k hj), fun e => hlt (by rw [e]; exact blk_lt hp.blk), fun e => hlt (by rw [e]; exact blk_lt hp.cb), fun e => hlt (by rw [e]; exact hp.hr.lt m hp.hr.mem)⟩
theorem PSO.still (h : PSO W0 p c b b' m F F' G J iv tv us ac so s ids told w) (hg : w.grownBy w' none) : PSO W0 p c b b' m F F' G J iv tv us ac so s ids told w' :=
  h.turn (Turn.of_grown hg) (h.old.still hg)
theorem PS.recopy (h : PS W0 p c b m F G J iv tv us ac s s ids told w) {w9 : World} (hg : w.grownBy w9 none) (hp' : PrG W0 F' b' s w9) (hn : ∀ k, F' k → w.heap.size ≤ k) (hw : w' = w9.setCell ⟨p, 0, none⟩ (.pointer (some ⟨b', 0, none⟩))) :
    PSO W0 p c b b' m F F' G J iv tv us ac s s ids told w' := by
  have h9 := h.still hg
  have hpl := blk_lt h.blk
  have hcl := blk_lt h.cb
  have hml := h.hr.lt m h.hr.mem
  have hu : Upto (fun k => k = p) w9 w' := by
    subst hw
    exact ⟨rfl, rfl, rfl, by rw [setCell_size]; exact Nat.le_refl _, fun k hk hn => Below.heap_setCell _ _ _ _ hn⟩
  have hpb : ∀ k, k = p → W0.heap.size ≤ k := fun k hk => by rw [hk]; exact h.pb
  have hpF' : ¬ F' p := fun hf => by have := hn p hf; omega
  refine ⟨⟨hp'.other (G := fun k => k = p) (G' := fun k => k = p) hpb ⟨hu, fun k _ hk => hk⟩ (fun k hk hf => by subst hk; exact hpF' hf), h9.hr.other hpb hu (fun k hk hf => by subst hk; exact h.pG hf), fun k hk hg => ?_, ?_, hpF', h.pG, h.pb, (hu.block _ (blk_lt h9.cb) h.cp).trans h9.cb, fun hf => ?_, h.cG, h.cp, h9.rows.upto hu (fun k hk => (h.jn k hk).2.2), h.w0, fun k hk => ⟨fun hf => ?_, (h.jn k hk).2⟩, h.kn, h.tl⟩, h9.hp.other (G := fun k => k = p) (G' := fun k => k = p) hpb ⟨hu, fun k _ hk => hk⟩ (fun k hk hf => by subst hk; exact h.pF hf), fun k hk => ⟨fun hf => ?_, h.ap k hk, fun hj => (h.jn k hj).1 hk, fun e => h.pF (by rw [← e]; exact hk), fun e => h.cF (by rw [← e]; exact hk), fun e => h.ap k hk (by rw [e]; exact h.hr.mem)⟩⟩
  · have := hn k hk
    have := h.hr.lt k hg
    omega
  · subst hw
    have := setCell_heap (i := 0) h9.blk (.pointer (some ⟨b', 0, none⟩))
    simpa using this
  · have := hn c hf; omega
  · have := hn k hf
    have := h.rows.lt k hk
    omega
  · have := hn k hf
    have := (h.hp.own k hk).2
    omega
end
end Go.Proofs.YtgdnndapmcjoeaaDoor
namespace Go.Proofs.YtgdnndapmcjoeaaDoor
open Go.RowKit Go.Maps
set_option linter.unusedVariables false
set_option maxRecDepth 100000 in
set_option maxHeartbeats 2000000 in
theorem do_copy_e (A : Nat → Addr) (W0 w : World) (p b m N : Nat) (F G J : Nat → Prop) (iv tv : Value) (us : List Value) (s : Rg) (ids : List ByteArray) (told : List (List Nat)) (key old : Int) (dom : ByteArray) (va : Option Addr) (n vc : Nat) (ma : Option Addr) (ml mc : Nat) (bs msg : List Nat) (kd : Int)
    (h : PS W0 p w.heap.size b m F G J iv tv us (acts kd key old dom (.slice va n vc) (.slice ma ml mc)) s s ids told (w.alloc (.cells (acts kd key old dom (.slice va n vc) (.slice ma ml mc)) 49)))
    (hE : AllErrs W0 A) (hLd : Laid W0) (hv : Bytes W0 (.slice va n vc) bs) (hv0 : Whole0 (.slice va n vc)) (hvn : bs.length = n) (hm : Bytes W0 (.slice ma ml mc) msg) (hm0 : Whole0 (.slice ma ml mc)) (hml : msg.length = ml) (hn2 : n ≤ 200) (hml2 : ml ≤ 200) (hd : dom.size ≤ 100) (hN : N ≤ 100) (hks : s.ks.length ≤ N) (hbk : s.bk.length ≤ N) (hil : ids.length ≤ N) (htl : told.length ≤ N) (hi0 : ids.length = 0) (hk0 : ¬ kd = 0) (hk1 : ¬ kd = 1) (hk2 : ¬ kd = 2) (hk3 : ¬ kd = 3) :
    Calls Tryd.prog 15 #[.pointer (some ⟨p, 0, none⟩), .agg (acts kd key old dom (.slice va n vc) (.slice ma ml mc))] w fun e w' => DoOut W0 p w.heap.size (acts kd key old dom (.slice va n vc) (.slice ma ml mc)) N e w' := by
  obtain ⟨w1, hw1⟩ : ∃ w1, w1 = w.alloc (.cells (acts kd key old dom (.slice va n vc) (.slice ma ml mc)) 49) := ⟨_, rfl⟩
  have HW1 := Lib.hid hw1
  rw [← hw1] at h
  have HH := Lib.hid h
  have HE := Lib.hid hE
  have HLd := Lib.hid hLd
  have HV := Lib.hid hv
  have HV0 := Lib.hid hv0
  have HVn := Lib.hid hvn
  have HM := Lib.hid hm
  have HM0 := Lib.hid hm0
  have HMl := Lib.hid hml
  have HN := Lib.hid (show N ≤ 100 ∧ s.ks.length ≤ N ∧ s.bk.length ≤ N ∧ ids.length ≤ N ∧ told.length ≤ N ∧ n ≤ 200 ∧ ml ≤ 200 ∧ dom.size ≤ 100 from ⟨hN, hks, hbk, hil, htl, hn2, hml2, hd⟩)
  have HC : Hid (∀ W : World, W.heap[w.heap.size]? = some (.cells (acts kd key old dom (.slice va n vc) (.slice ma ml mc)) 49 (0, 0)) → W.cell? ⟨w.heap.size, 0, none⟩ = some (.int .i64 kd) ∧ W.cell? ⟨w.heap.size, 1, none⟩ = some (.int .i64 key) ∧ W.cell? ⟨w.heap.size, 2, none⟩ = some (.int .i64 old) ∧ W.cell? ⟨w.heap.size, 3, none⟩ = some (.string dom) ∧ W.cell? ⟨w.heap.size, 4, none⟩ = some (.slice va n vc) ∧ W.cell? ⟨w.heap.size, 5, none⟩ = some (.slice ma ml mc)) := Lib.hid (fun W hW => ⟨cell_blk hW 0 rfl, cell_blk hW 1 rfl, cell_blk hW 2 rfl, cell_blk hW 3 rfl, cell_blk hW 4 rfl, cell_blk hW 5 rfl⟩)
  have hidz := idOf_size (fun id hid => (h.kn id hid).2) key
  have HIZ : Hid ((idOf ids key).size ≤ 1000) := Lib.hid hidz
  obtain ⟨_, ia, ig, io, ic, hiv, i2, i3⟩ := h.rows.now.1
  obtain ⟨_, ta, tg, tof, tc, htv, t2, t3⟩ := h.rows.now.2.1
  subst hiv
  subst htv
  obtain ⟨L, hL⟩ : ∃ L, L = ids.length := ⟨_, rfl⟩
  obtain ⟨TL, hTL⟩ : ∃ TL, TL = told.length := ⟨_, rfl⟩
  have HLL : Hid (L = ids.length ∧ TL = told.length) := Lib.hid ⟨hL, hTL⟩
  have HB : Hid (∀ W : World, W.heap[p]? = some (.cells #[.pointer (some ⟨b, 0, none⟩), .pointer (some ⟨m, 0, none⟩), .slice ia L ic, .slice ta TL tc] 47 (0, 0)) → W.cell? ⟨p, 0, none⟩ = some (.pointer (some ⟨b, 0, none⟩)) ∧ W.cell? ⟨p, 1, none⟩ = some (.pointer (some ⟨m, 0, none⟩)) ∧ W.cell? ⟨p, 2, none⟩ = some (.slice ia L ic) ∧ W.cell? ⟨p, 3, none⟩ = some (.slice ta TL tc)) := Lib.hid (fun W hW => ⟨cell_blk hW 0 rfl, cell_blk hW 1 rfl, cell_blk hW 2 rfl, cell_blk hW 3 rfl⟩)
  have HBW : Hid (∀ (F' G' : Nat → Prop) (sp sd : Rg) (W : World), PS W0 p w.heap.size b m F' G' J (.slice ia ids.length ic) (.slice ta told.length tc) us (acts kd key old dom (.slice va n vc) (.slice ma ml mc)) sp sd ids told W → W.heap[p]? = some (.cells #[.pointer (some ⟨b, 0, none⟩), .pointer (some ⟨m, 0, none⟩), .slice ia L ic, .slice ta TL tc] 47 (0, 0))) := Lib.hid (fun F' G' sp sd W h => by rw [hL, hTL]; exact h.blk)
  have hblk := HBW.out _ _ _ _ _ h
  obtain ⟨hb0, hb1, hb2, hb3⟩ := HB.out _ hblk
  obtain ⟨q0, q1, q2, q3, q4, q5⟩ := HC.out _ h.cb
  have hLn : ¬ (0 : Int) < (L : Int) := by omega
  have hI : (⟨#[110, 111, 110, 101]⟩ : ByteArray) = idOf ids key := by unfold idOf; rw [if_pos hi0]
  obtain ⟨hx0, hx1, hx2', hx3, hx4, hx5⟩ := HC.out (w.alloc (.cells (acts kd key old dom (.slice va n vc) (.slice ma ml mc)) 49)) (by rw [← hw1]; exact h.cb)
  obtain ⟨hy0, hy1, hy2, hy3⟩ := HB.out (w.alloc (.cells (acts kd key old dom (.slice va n vc) (.slice ma ml mc)) 49)) (by rw [← hw1]; exact hblk)
  have HII := Lib.hid hI
  have HI0 := Lib.hid hi0
  have H2 := Lib.hid h
  have G2 : Hid (w1.grownBy w1 none) := Lib.hid (grown_refl _ _)
  clear hw1 h hE hLd hL hTL hI i2 hv hv0 hvn hm hm0 hml hn2 hml2 hd hN hks hbk hil htl hidz hblk hi0 t2 i3 t3
  obtain ⟨w2, hw2⟩ : ∃ w2, w2 = w1 := ⟨_, rfl⟩
  subst hw2
  have HCp : Hid (∀ W, w2.grownBy W none → Calls Tryd.prog 31 #[.pointer (some ⟨b, 0, none⟩)] W fun e w' => ∃ b' F', e = .returned (.pointer (some ⟨b', 0, none⟩)) ∧ W.grownBy w' none ∧ PrG W0 F' b' s w' ∧ ∀ k, F' k → W.heap.size ≤ k) := Lib.hid (fun W hW => pgCopy (H2.out.still hW).hp)
  have hpl := Lib.hid (blk_lt H2.out.blk)
  have HSg : Hid (∀ (b2 : Nat) (F1 F2 : Nat → Prop) (W : World), PSO W0 p w.heap.size b b2 m F1 F2 G J (.slice ia ids.length ic) (.slice ta told.length tc) us (acts kd key old dom (.slice va n vc) (.slice ma ml mc)) s s ids told W → Calls Tryd.prog 19 #[.pointer (some ⟨b, 0, none⟩), .string ⟨#[110, 111, 110, 101]⟩, .string ⟨#[108, 97, 116, 101, 114]⟩, .slice (some ⟨W.heap.size, 0, none⟩) 1 1] (W.alloc (.cells #[.int .u8 109] 5 (1, 2))) fun e w' => ∃ v er, e = .returned (.tuple #[v, er]) ∧ ∃ (F3 : Nat → Prop) (s3 : Rg), PSO W0 p w.heap.size b b2 m F3 F2 G J (.slice ia ids.length ic) (.slice ta told.length tc) us (acts kd key old dom (.slice va n vc) (.slice ma ml mc)) s3 s ids told w') := Lib.hid (fun b2 F1 F2 W h => by
    have hn : ¬ F1 W.heap.size := h.old.apart
    have h2 := h.still (w' := W.alloc (.cells #[.int .u8 109] 5 (1, 2))) (World.grownBy_alloc _ _ _)
    have hcall := pgSign h2.old HE.out HLd.out (idOf ids key) ⟨#[108, 97, 116, 101, 114]⟩ HIZ.out (by decide) (some ⟨W.heap.size, 0, none⟩) 1 [109] (by decide) (fun W' hW => by
      have := (hW.block W.heap.size (by rw [alloc_size]; omega) hn).trans (alloc_at W _)
      exact blk_bytes (l := [109]) (by decide) this) (Whole0.some _ _ _)
    rw [HII.out]
    refine hcall.mono ?_
    rintro e w' (⟨_, rfl, hg⟩ | ⟨_, g, F3, rfl, _, _, _, ht, hp⟩)
    · exact ⟨_, _, rfl, F1, s, h2.still hg⟩
    · exact ⟨_, _, rfl, F3, _, h2.turn ht hp⟩)
  have HAd : Hid (∀ (b2 : Nat) (F1 F2 : Nat → Prop) (s3 : Rg) (W : World), PSO W0 p w.heap.size b b2 m F1 F2 G J (.slice ia ids.length ic) (.slice ta told.length tc) us (acts kd key old dom (.slice va n vc) (.slice ma ml mc)) s3 s ids told W → Calls Tryd.prog 18 #[.pointer (some ⟨b, 0, none⟩), .slice (some ⟨W.heap.size, 0, none⟩) 32 32] (W.alloc (.cells (bytesV noughts) 5)) fun e w' => ∃ v er, e = .returned (.tuple #[v, er]) ∧ ∃ (F3 : Nat → Prop) (s4 : Rg), PSO W0 p w.heap.size b b2 m F3 F2 G J (.slice ia ids.length ic) (.slice ta told.length tc) us (acts kd key old dom (.slice va n vc) (.slice ma ml mc)) s4 s ids told w') := Lib.hid (fun b2 F1 F2 s3 W h => by
    have hn : ¬ F1 W.heap.size := h.old.apart
    have h2 := h.still (w' := W.alloc (.cells (bytesV noughts) 5)) (World.grownBy_alloc _ _ _)
    refine (pgAdd h2.old HE.out HLd.out (some ⟨W.heap.size, 0, none⟩) 32 noughts rfl (fun W' hW => ?_)).mono ?_
    · have := (hW.block W.heap.size (by rw [alloc_size]; omega) hn).trans (alloc_at W _)
      exact blk_bytes noughts_lt this
    · rintro e w' ⟨rfl, F3, ht, hp⟩
      exact ⟨_, _, rfl, F3, _, h2.turn ht hp⟩)
  have hmk := made32
  go_enter Tryd.func15, Tryd.ntmps15
  go_wp2_with (first
    | (go_at_call 31; rw [← HW1.out]; refine (HCp.out w2 (grown_refl _ _)).mono ?_; rintro e w3 ⟨b2, F2, rfl, hg3, hp3, hn3⟩; have G3 := Lib.hid hg3; have P3 := Lib.hid hp3; have N3 := Lib.hid hn3; clear hg3 hp3 hn3)
    | (have hX := there_blk ((G3.out.block _ hpl.out (by simp)).trans H2.out.blk) 0 1 (by show 0 + 1 ≤ 4; decide)
       refine wpList_store_c (by rfl) 37 (.tmp 215) (.tmp 213) (by rfl) p 0 (.pointer (some ⟨b2, 0, none⟩)) (by rfl) (by rfl) hX (by kernel_rfl) (by rfl) ?_
       clear hX
       obtain ⟨w4, hw4⟩ : ∃ w4, w4 = w3.setCell ⟨p, 0, none⟩ (.pointer (some ⟨b2, 0, none⟩)) := ⟨_, rfl⟩
       rw [← hw4]
       have P4 := Lib.hid (H2.out.recopy G3.out P3.out N3.out hw4)
       have hc4 := conv25 1 w4 #[.int .u8 109] rfl
       clear hw4)
    | (go_at_call 19; refine (HSg.out _ _ _ w4 P4.out).mono ?_; rintro e w5 ⟨v5, er5, rfl, F5, s5, hp5⟩; have P5 := Lib.hid hp5; clear hp5)
    | (go_at_call 18; refine (HAd.out _ _ _ _ w5 P5.out).mono ?_; rintro e w6 ⟨v6, er6, rfl, F6, s6, hp6⟩; have P6 := Lib.hid hp6; clear hp6))
  go_ret
  exact DoOut.same P6.out.ps HN.out.2.1 HN.out.2.2.1 HN.out.2.2.2.1 HN.out.2.2.2.2.1
set_option maxRecDepth 100000 in
set_option maxHeartbeats 2000000 in
theorem do_copy_n (A : Nat → Addr) (W0 w : World) (p b m N : Nat) (F G J : Nat → Prop) (iv tv : Value) (us : List Value) (s : Rg) (ids : List ByteArray) (told : List (List Nat)) (key old : Int) (dom : ByteArray) (va : Option Addr) (n vc : Nat) (ma : Option Addr) (ml mc : Nat) (bs msg : List Nat) (kd : Int)
    (h : PS W0 p w.heap.size b m F G J iv tv us (acts kd key old dom (.slice va n vc) (.slice ma ml mc)) s s ids told (w.alloc (.cells (acts kd key old dom (.slice va n vc) (.slice ma ml mc)) 49)))
    (hE : AllErrs W0 A) (hLd : Laid W0) (hv : Bytes W0 (.slice va n vc) bs) (hv0 : Whole0 (.slice va n vc)) (hvn : bs.length = n) (hm : Bytes W0 (.slice ma ml mc) msg) (hm0 : Whole0 (.slice ma ml mc)) (hml : msg.length = ml) (hn2 : n ≤ 200) (hml2 : ml ≤ 200) (hd : dom.size ≤ 100) (hN : N ≤ 100) (hks : s.ks.length ≤ N) (hbk : s.bk.length ≤ N) (hil : ids.length ≤ N) (htl : told.length ≤ N) (hi0 : 0 < ids.length) (hk0 : ¬ kd = 0) (hk1 : ¬ kd = 1) (hk2 : ¬ kd = 2) (hk3 : ¬ kd = 3) :
    Calls Tryd.prog 15 #[.pointer (some ⟨p, 0, none⟩), .agg (acts kd key old dom (.slice va n vc) (.slice ma ml mc))] w fun e w' => DoOut W0 p w.heap.size (acts kd key old dom (.slice va n vc) (.slice ma ml mc)) N e w' := by
  obtain ⟨w1, hw1⟩ : ∃ w1, w1 = w.alloc (.cells (acts kd key old dom (.slice va n vc) (.slice ma ml mc)) 49) := ⟨_, rfl⟩
  have HW1 := Lib.hid hw1
  rw [← hw1] at h
  have HH := Lib.hid h
  have HE := Lib.hid hE
  have HLd := Lib.hid hLd
  have HV := Lib.hid hv
  have HV0 := Lib.hid hv0
  have HVn := Lib.hid hvn
  have HM := Lib.hid hm
  have HM0 := Lib.hid hm0
  have HMl := Lib.hid hml
  have HN := Lib.hid (show N ≤ 100 ∧ s.ks.length ≤ N ∧ s.bk.length ≤ N ∧ ids.length ≤ N ∧ told.length ≤ N ∧ n ≤ 200 ∧ ml ≤ 200 ∧ dom.size ≤ 100 from ⟨hN, hks, hbk, hil, htl, hn2, hml2, hd⟩)
  have HC : Hid (∀ W : World, W.heap[w.heap.size]? = some (.cells (acts kd key old dom (.slice va n vc) (.slice ma ml mc)) 49 (0, 0)) → W.cell? ⟨w.heap.size, 0, none⟩ = some (.int .i64 kd) ∧ W.cell? ⟨w.heap.size, 1, none⟩ = some (.int .i64 key) ∧ W.cell? ⟨w.heap.size, 2, none⟩ = some (.int .i64 old) ∧ W.cell? ⟨w.heap.size, 3, none⟩ = some (.string dom) ∧ W.cell? ⟨w.heap.size, 4, none⟩ = some (.slice va n vc) ∧ W.cell? ⟨w.heap.size, 5, none⟩ = some (.slice ma ml mc)) := Lib.hid (fun W hW => ⟨cell_blk hW 0 rfl, cell_blk hW 1 rfl, cell_blk hW 2 rfl, cell_blk hW 3 rfl, cell_blk hW 4 rfl, cell_blk hW 5 rfl⟩)
  have hidz := idOf_size (fun id hid => (h.kn id hid).2) key
  have HIZ : Hid ((idOf ids key).size ≤ 1000) := Lib.hid hidz
  obtain ⟨_, ia, ig, io, ic, hiv, i2, i3⟩ := h.rows.now.1
  obtain ⟨_, ta, tg, tof, tc, htv, t2, t3⟩ := h.rows.now.2.1
  subst hiv
  subst htv
  obtain ⟨L, hL⟩ : ∃ L, L = ids.length := ⟨_, rfl⟩
  obtain ⟨TL, hTL⟩ : ∃ TL, TL = told.length := ⟨_, rfl⟩
  have HLL : Hid (L = ids.length ∧ TL = told.length) := Lib.hid ⟨hL, hTL⟩
  have HB : Hid (∀ W : World, W.heap[p]? = some (.cells #[.pointer (some ⟨b, 0, none⟩), .pointer (some ⟨m, 0, none⟩), .slice ia L ic, .slice ta TL tc] 47 (0, 0)) → W.cell? ⟨p, 0, none⟩ = some (.pointer (some ⟨b, 0, none⟩)) ∧ W.cell? ⟨p, 1, none⟩ = some (.pointer (some ⟨m, 0, none⟩)) ∧ W.cell? ⟨p, 2, none⟩ = some (.slice ia L ic) ∧ W.cell? ⟨p, 3, none⟩ = some (.slice ta TL tc)) := Lib.hid (fun W hW => ⟨cell_blk hW 0 rfl, cell_blk hW 1 rfl, cell_blk hW 2 rfl, cell_blk hW 3 rfl⟩)
  have HBW : Hid (∀ (F' G' : Nat → Prop) (sp sd : Rg) (W : World), PS W0 p w.heap.size b m F' G' J (.slice ia ids.length ic) (.slice ta told.length tc) us (acts kd key old dom (.slice va n vc) (.slice ma ml mc)) sp sd ids told W → W.heap[p]? = some (.cells #[.pointer (some ⟨b, 0, none⟩), .pointer (some ⟨m, 0, none⟩), .slice ia L ic, .slice ta TL tc] 47 (0, 0))) := Lib.hid (fun F' G' sp sd W h => by rw [hL, hTL]; exact h.blk)
  have hblk := HBW.out _ _ _ _ _ h
  obtain ⟨hb0, hb1, hb2, hb3⟩ := HB.out _ hblk
  obtain ⟨q0, q1, q2, q3, q4, q5⟩ := HC.out _ h.cb
  obtain ⟨j, hj⟩ : ∃ j, j = (key % 18446744073709551616).toNat % ids.length := ⟨_, rfl⟩
  have hjL : j < L := by rw [hj, hL]; exact Nat.mod_lt _ hi0
  obtain ⟨rfl, igl⟩ := i2 hi0
  obtain ⟨I, hI⟩ : ∃ I, I = idOf ids key := ⟨_, rfl⟩
  have ej := i3 j (.string I) (by
    rw [hI]
    unfold idOf
    rw [if_neg (by omega), ← hj, List.getElem?_map, List.getD_eq_getElem?_getD, List.getElem?_eq_getElem (by omega)]; rfl)
  have hw64 := u64n (n := ids.length) (by omega)
  have hidx := idx_eq key (n := ids.length) (by omega) hi0
  rw [← hj, ← hL] at hidx
  rw [← hL] at hw64
  have hL0 : ¬ (L : Int) = 0 := by omega
  have hLg : (0 : Int) < (L : Int) := by omega
  have hjL' : (j : Int) < (L : Int) := by omega
  have hj0 : (0 : Int) ≤ (j : Int) := by omega
  have hx2 : (w.alloc (.cells (acts kd key old dom (.slice va n vc) (.slice ma ml mc)) 49)).cell? ⟨p, 2, none⟩ = some (.slice (some ⟨ig, io, none⟩) L ic) := by rw [← hw1]; exact hb2
  have HII : Hid (I = idOf ids key) := Lib.hid hI
  have HI0 := Lib.hid hi0
  clear hw1 h hE hLd hL hTL hj hI i2 hv hv0 hvn hm hm0 hml hn2 hml2 hd hN hks hbk hil htl hidz hblk hi0 t2 i3 t3
  go_enter Tryd.func15, Tryd.ntmps15
  go_wp2
  rw [← HW1.out]
  go_quiet (fail)
  obtain ⟨w2, hw2⟩ : ∃ w2, w2 = w1.drewN nq := ⟨_, rfl⟩
  rw [← hw2]
  have G2 : Hid (w1.grownBy w2 none) := Lib.hid (by rw [hw2]; exact grown_drewN (grown_refl _ _) _)
  have H2 := Lib.hid (HH.out.still G2.out)
  clear hw2 hb0 hb1 hb2 hb3 q0 q1 q2 q3 q4 q5 ej hidx hw64 hx2 hjL hjL' hj0 hL0 hLg
  obtain ⟨q0, q1, q2, q3, q4, q5⟩ := HC.out _ H2.out.cb
  obtain ⟨hb0, hb1, hb2, hb3⟩ := HB.out _ (HBW.out _ _ _ _ _ H2.out)
  have HCp : Hid (∀ W, w2.grownBy W none → Calls Tryd.prog 31 #[.pointer (some ⟨b, 0, none⟩)] W fun e w' => ∃ b' F', e = .returned (.pointer (some ⟨b', 0, none⟩)) ∧ W.grownBy w' none ∧ PrG W0 F' b' s w' ∧ ∀ k, F' k → W.heap.size ≤ k) := Lib.hid (fun W hW => pgCopy (H2.out.still hW).hp)
  have hpl := Lib.hid (blk_lt H2.out.blk)
  have HSg : Hid (∀ (b2 : Nat) (F1 F2 : Nat → Prop) (W : World), PSO W0 p w.heap.size b b2 m F1 F2 G J (.slice (some ⟨ig, io, none⟩) ids.length ic) (.slice ta told.length tc) us (acts kd key old dom (.slice va n vc) (.slice ma ml mc)) s s ids told W → Calls Tryd.prog 19 #[.pointer (some ⟨b, 0, none⟩), .string I, .string ⟨#[108, 97, 116, 101, 114]⟩, .slice (some ⟨W.heap.size, 0, none⟩) 1 1] (W.alloc (.cells #[.int .u8 109] 5 (1, 2))) fun e w' => ∃ v er, e = .returned (.tuple #[v, er]) ∧ ∃ (F3 : Nat → Prop) (s3 : Rg), PSO W0 p w.heap.size b b2 m F3 F2 G J (.slice (some ⟨ig, io, none⟩) ids.length ic) (.slice ta told.length tc) us (acts kd key old dom (.slice va n vc) (.slice ma ml mc)) s3 s ids told w') := Lib.hid (fun b2 F1 F2 W h => by
    have hn : ¬ F1 W.heap.size := h.old.apart
    have h2 := h.still (w' := W.alloc (.cells #[.int .u8 109] 5 (1, 2))) (World.grownBy_alloc _ _ _)
    have hcall := pgSign h2.old HE.out HLd.out (idOf ids key) ⟨#[108, 97, 116, 101, 114]⟩ HIZ.out (by decide) (some ⟨W.heap.size, 0, none⟩) 1 [109] (by decide) (fun W' hW => by
      have := (hW.block W.heap.size (by rw [alloc_size]; omega) hn).trans (alloc_at W _)
      exact blk_bytes (l := [109]) (by decide) this) (Whole0.some _ _ _)
    rw [HII.out]
    refine hcall.mono ?_
    rintro e w' (⟨_, rfl, hg⟩ | ⟨_, g, F3, rfl, _, _, _, ht, hp⟩)
    · exact ⟨_, _, rfl, F1, s, h2.still hg⟩
    · exact ⟨_, _, rfl, F3, _, h2.turn ht hp⟩)
  have HAd : Hid (∀ (b2 : Nat) (F1 F2 : Nat → Prop) (s3 : Rg) (W : World), PSO W0 p w.heap.size b b2 m F1 F2 G J (.slice (some ⟨ig, io, none⟩) ids.length ic) (.slice ta told.length tc) us (acts kd key old dom (.slice va n vc) (.slice ma ml mc)) s3 s ids told W → Calls Tryd.prog 18 #[.pointer (some ⟨b, 0, none⟩), .slice (some ⟨W.heap.size, 0, none⟩) 32 32] (W.alloc (.cells (bytesV noughts) 5)) fun e w' => ∃ v er, e = .returned (.tuple #[v, er]) ∧ ∃ (F3 : Nat → Prop) (s4 : Rg), PSO W0 p w.heap.size b b2 m F3 F2 G J (.slice (some ⟨ig, io, none⟩) ids.length ic) (.slice ta told.length tc) us (acts kd key old dom (.slice va n vc) (.slice ma ml mc)) s4 s ids told w') := Lib.hid (fun b2 F1 F2 s3 W h => by
    have hn : ¬ F1 W.heap.size := h.old.apart
    have h2 := h.still (w' := W.alloc (.cells (bytesV noughts) 5)) (World.grownBy_alloc _ _ _)
    refine (pgAdd h2.old HE.out HLd.out (some ⟨W.heap.size, 0, none⟩) 32 noughts rfl (fun W' hW => ?_)).mono ?_
    · have := (hW.block W.heap.size (by rw [alloc_size]; omega) hn).trans (alloc_at W _)
      exact blk_bytes noughts_lt this
    · rintro e w' ⟨rfl, F3, ht, hp⟩
      exact ⟨_, _, rfl, F3, _, h2.turn ht hp⟩)
  have hmk := made32
  go_wp2_with (first
    | (go_at_call 31; refine (HCp.out w2 (grown_refl _ _)).mono ?_; rintro e w3 ⟨b2, F2, rfl, hg3, hp3, hn3⟩; have G3 := Lib.hid hg3; have P3 := Lib.hid hp3; have N3 := Lib.hid hn3; clear hg3 hp3 hn3)
    | (have hX := there_blk ((G3.out.block _ hpl.out (by simp)).trans H2.out.blk) 0 1 (by show 0 + 1 ≤ 4; decide)
       refine wpList_store_c (by rfl) 37 (.tmp 215) (.tmp 213) (by rfl) p 0 (.pointer (some ⟨b2, 0, none⟩)) (by rfl) (by rfl) hX (by kernel_rfl) (by rfl) ?_
       clear hX
       obtain ⟨w4, hw4⟩ : ∃ w4, w4 = w3.setCell ⟨p, 0, none⟩ (.pointer (some ⟨b2, 0, none⟩)) := ⟨_, rfl⟩
       rw [← hw4]
       have P4 := Lib.hid (H2.out.recopy G3.out P3.out N3.out hw4)
       have hc4 := conv25 1 w4 #[.int .u8 109] rfl
       clear hw4)
    | (go_at_call 19; refine (HSg.out _ _ _ w4 P4.out).mono ?_; rintro e w5 ⟨v5, er5, rfl, F5, s5, hp5⟩; have P5 := Lib.hid hp5; clear hp5)
    | (go_at_call 18; refine (HAd.out _ _ _ _ w5 P5.out).mono ?_; rintro e w6 ⟨v6, er6, rfl, F6, s6, hp6⟩; have P6 := Lib.hid hp6; clear hp6))
  go_ret
  exact DoOut.same P6.out.ps HN.out.2.1 HN.out.2.2.1 HN.out.2.2.2.1 HN.out.2.2.2.2.1
end Go.Proofs.YtgdnndapmcjoeaaDoor
namespace Go.Proofs.YtgdnndapmcjoeaaDoor
open Go.RowKit Go.Maps
set_option linter.unusedVariables false
/-- A play, with no act at hand. -/
structure PZ (W0 : World) (p b m : Nat) (F G J : Nat → Prop) (iv tv : Value) (us : List Value) (s : Rg) (ids : List ByteArray) (told : List (List Nat)) (w : World) : Prop where
  hp : PrG W0 F b s w
  hr : RefG W0 G m s w
  ap : ∀ k, F k → ¬ G k
  blk : w.heap[p]? = some (.cells #[.pointer (some ⟨b, 0, none⟩), .pointer (some ⟨m, 0, none⟩), iv, tv] 47 (0, 0))
  pF : ¬ F p
  pG : ¬ G p
  pb : W0.heap.size ≤ p
  rows : Sup J w (fun W => RowV W iv 1 ids.length (ids.map Value.string) ∧ RowV W tv 1 told.length us ∧ us.length = told.length ∧ ∀ pr ∈ told.zip us, Bytes W pr.2 pr.1)
  w0 : Whole0 iv ∧ Whole0 tv ∧ ∀ u ∈ us, Whole0 u
  jn : ∀ k, J k → ¬ F k ∧ k ≠ m ∧ k ≠ p
  kn : ∀ id ∈ ids, (s.get id).isSome = true ∧ id.size = 32
  tl : ∀ l ∈ told, l.length = 32
section
variable {A : Nat → Addr} {W0 w w' : World} {p c b m N : Nat} {F G J : Nat → Prop} {iv tv : Value} {us : List Value} {ac : Array Value} {s : Rg} {ids : List ByteArray} {told : List (List Nat)}
theorem PS.drop (h : PS W0 p c b m F G J iv tv us ac s s ids told w) : PZ W0 p b m F G J iv tv us s ids told w :=
  ⟨h.hp, h.hr, h.ap, h.blk, h.pF, h.pG, h.pb, h.rows, h.w0, h.jn, h.kn, h.tl⟩
theorem PZ.still (h : PZ W0 p b m F G J iv tv us s ids told w) (hg : w.grownBy w' none) : PZ W0 p b m F G J iv tv us s ids told w' :=
  ⟨h.hp.still hg, h.hr.still hg, h.ap, (hg.block _ (blk_lt h.blk) (by simp)).trans h.blk, h.pF, h.pG, h.pb, h.rows.grown hg, h.w0, h.jn, h.kn, h.tl⟩
theorem PZ.box (h : PZ W0 p b m F G J iv tv us s ids told w) (ac : Array Value) : PS W0 p w.heap.size b m F G J iv tv us ac s s ids told (w.alloc (.cells ac 49)) := by
  have h2 := h.still (w' := w.alloc (.cells ac 49)) (World.grownBy_alloc _ _ _)
  have hpl := blk_lt h.blk
  exact ⟨h2.hp, h2.hr, h2.ap, h2.blk, h2.pF, h2.pG, h2.pb, alloc_at _ _, fun hf => by have := (h.hp.own _ hf).2; omega, fun hg => by have := h.hr.lt _ hg; omega, by omega, h2.rows, h2.w0, h2.jn, h2.kn, h2.tl⟩
def PY (W0 : World) (p N : Nat) (w : World) : Prop :=
  ∃ b m F G J iv tv us s ids told, PZ W0 p b m F G J iv tv us s ids told w ∧ s.ks.length ≤ N ∧ s.bk.length ≤ N ∧ ids.length ≤ N ∧ told.length ≤ N
theorem PY.of {e : Ending} (h : DoOut W0 p c ac N e w) : e = .returned (.bool true) ∧ PY W0 p (N + 1) w := by
  obtain ⟨h1, b, m, F, G, J, iv, tv, us, s, ids, told, h2, h3⟩ := h
  exact ⟨h1, b, m, F, G, J, iv, tv, us, s, ids, told, h2.drop, h3⟩
/-- What an act holds. -/
structure Ac where
  kind : Int
  key : Int
  old : Int
  dom : ByteArray
  bs : List Nat
  msg : List Nat
theorem do_any (hE : AllErrs W0 A) (hL : Laid W0) (h : PY W0 p N w) (hN : N ≤ 100) (kd key old : Int) (dom : ByteArray) (va : Option Addr) (n vc : Nat) (ma : Option Addr) (ml mc : Nat) (bs msg : List Nat) (hv : Bytes W0 (.slice va n vc) bs) (hv0 : Whole0 (.slice va n vc)) (hvn : bs.length = n) (hm : Bytes W0 (.slice ma ml mc) msg) (hm0 : Whole0 (.slice ma ml mc)) (hml : msg.length = ml) (hn2 : n ≤ 200) (hml2 : ml ≤ 200) (hd : dom.size ≤ 100) :
    Calls Tryd.prog 15 #[.pointer (some ⟨p, 0, none⟩), .agg (acts kd key old dom (.slice va n vc) (.slice ma ml mc))] w fun e w' => e = .returned (.bool true) ∧ PY W0 p (N + 1) w' := by
  obtain ⟨b, m, F, G, J, iv, tv, us, s, ids, told, hz, h1, h2, h3, h4⟩ := h
  have hs := hz.box (acts kd key old dom (.slice va n vc) (.slice ma ml mc))
  by_cases k0 : kd = 0
  · subst k0
    by_cases hn : n = 32
    · subst hn
      rcases Nat.eq_zero_or_pos ids.length with hi | hi
      · exact (do_add_e A W0 w p b m N F G J iv tv us s ids told key old dom va vc ma ml mc bs msg hs hE hL hv hv0 hvn hm hm0 hml hml2 hd hN h1 h2 h3 h4 hi).mono (fun e w' h => PY.of h)
      · exact (do_add_n A W0 w p b m N F G J iv tv us s ids told key old dom va vc ma ml mc bs msg hs hE hL hv hv0 hvn hm hm0 hml hml2 hd hN h1 h2 h3 h4 hi).mono (fun e w' h => PY.of h)
    · rcases Nat.eq_zero_or_pos ids.length with hi | hi
      · exact (do_wrong_e A W0 w p b m N F G J iv tv us s ids told key old dom va n vc ma ml mc bs msg hs hE hL hv hv0 hvn hm hm0 hml hn2 hml2 hd hN h1 h2 h3 h4 hi hn).mono (fun e w' h => PY.of h)
      · exact (do_wrong_n A W0 w p b m N F G J iv tv us s ids told key old dom va n vc ma ml mc bs msg hs hE hL hv hv0 hvn hm hm0 hml hn2 hml2 hd hN h1 h2 h3 h4 hi hn).mono (fun e w' h => PY.of h)
  by_cases k1 : kd = 1
  · subst k1
    by_cases hr : recE s (idOf ids key) dom msg = 0
    · rcases Nat.eq_zero_or_pos ids.length with hi | hi
      · exact (do_sign_e A W0 w p b m N F G J iv tv us s ids told key old dom va n vc ma ml mc bs msg hs hE hL hv hv0 hvn hm hm0 hml hn2 hml2 hd hN h1 h2 h3 h4 hi hr).mono (fun e w' h => PY.of h)
      · exact (do_sign_n A W0 w p b m N F G J iv tv us s ids told key old dom va n vc ma ml mc bs msg hs hE hL hv hv0 hvn hm hm0 hml hn2 hml2 hd hN h1 h2 h3 h4 hi hr).mono (fun e w' h => PY.of h)
    · rcases Nat.eq_zero_or_pos ids.length with hi | hi
      · exact (do_nosign_e A W0 w p b m N F G J iv tv us s ids told key old dom va n vc ma ml mc bs msg hs hE hL hv hv0 hvn hm hm0 hml hn2 hml2 hd hN h1 h2 h3 h4 hi hr).mono (fun e w' h => PY.of h)
      · exact (do_nosign_n A W0 w p b m N F G J iv tv us s ids told key old dom va n vc ma ml mc bs msg hs hE hL hv hv0 hvn hm hm0 hml hn2 hml2 hd hN h1 h2 h3 h4 hi hr).mono (fun e w' h => PY.of h)
  by_cases k2 : kd = 2
  · subst k2
    rcases Nat.eq_zero_or_pos told.length with ht | ht
    · rcases Nat.eq_zero_or_pos ids.length with hi | hi
      · exact (do_ver2_e A W0 w p b m N F G J iv tv us s ids told key old dom va n vc ma ml mc bs msg hs hE hL hv hv0 hvn hm hm0 hml hn2 hml2 hd hN h1 h2 h3 h4 hi ht).mono (fun e w' h => PY.of h)
      · exact (do_ver2_n A W0 w p b m N F G J iv tv us s ids told key old dom va n vc ma ml mc bs msg hs hE hL hv hv0 hvn hm hm0 hml hn2 hml2 hd hN h1 h2 h3 h4 hi ht).mono (fun e w' h => PY.of h)
    · rcases Nat.eq_zero_or_pos ids.length with hi | hi
      · exact (do_verT_e A W0 w p b m N F G J iv tv us s ids told key old dom va n vc ma ml mc bs msg hs hE hL hv hv0 hvn hm hm0 hml hn2 hml2 hd hN h1 h2 h3 h4 hi ht).mono (fun e w' h => PY.of h)
      · exact (do_verT_n A W0 w p b m N F G J iv tv us s ids told key old dom va n vc ma ml mc bs msg hs hE hL hv hv0 hvn hm hm0 hml hn2 hml2 hd hN h1 h2 h3 h4 hi ht).mono (fun e w' h => PY.of h)
  by_cases k3 : kd = 3
  · subst k3
    rcases Nat.eq_zero_or_pos ids.length with hi | hi
    · exact (do_ver3_e A W0 w p b m N F G J iv tv us s ids told key old dom va n vc ma ml mc bs msg hs hE hL hv hv0 hvn hm hm0 hml hn2 hml2 hd hN h1 h2 h3 h4 hi).mono (fun e w' h => PY.of h)
    · exact (do_ver3_n A W0 w p b m N F G J iv tv us s ids told key old dom va n vc ma ml mc bs msg hs hE hL hv hv0 hvn hm hm0 hml hn2 hml2 hd hN h1 h2 h3 h4 hi).mono (fun e w' h => PY.of h)
  · rcases Nat.eq_zero_or_pos ids.length with hi | hi
    · exact (do_copy_e A W0 w p b m N F G J iv tv us s ids told key old dom va n vc ma ml mc bs msg kd hs hE hL hv hv0 hvn hm hm0 hml hn2 hml2 hd hN h1 h2 h3 h4 hi k0 k1 k2 k3).mono (fun e w' h => PY.of h)
    · exact (do_copy_n A W0 w p b m N F G J iv tv us s ids told key old dom va n vc ma ml mc bs msg kd hs hE hL hv hv0 hvn hm hm0 hml hn2 hml2 hd hN h1 h2 h3 h4 hi k0 k1 k2 k3).mono (fun e w' h => PY.of h)
/-- A play that is new. -/
theorem PZ.new {w1 : World} (hb : W0.grownBy w none) (hw1 : w1 = ((w.alloc (.cells #[.map none, .map none] 83)).alloc (.cells #[.slice none 0 0, .slice none 0 0] 43)).alloc (.cells #[.pointer (some ⟨w.heap.size, 0, none⟩), .pointer (some ⟨w.heap.size + 1, 0, none⟩), .slice none 0 0, .slice none 0 0] 47)) :
    PY W0 (w.heap.size + 2) 0 w1 := by
  have s1 : (w.alloc (.cells #[.map none, .map none] 83)).heap.size = w.heap.size + 1 := alloc_size _ _
  have s2 : ((w.alloc (.cells #[.map none, .map none] 83)).alloc (.cells #[.slice none 0 0, .slice none 0 0] 43)).heap.size = w.heap.size + 2 := by rw [alloc_size, s1]
  have h1 := (PrG.new hb).still (grown_alloc (World.grownBy_alloc _ (.cells #[.slice none 0 0, .slice none 0 0] 43) none) (.cells #[.pointer (some ⟨w.heap.size, 0, none⟩), .pointer (some ⟨w.heap.size + 1, 0, none⟩), .slice none 0 0, .slice none 0 0] 47))
  have h2 := (RefG.new (grown_alloc hb (.cells #[.map none, .map none] 83)) rfl).still (World.grownBy_alloc _ (.cells #[.pointer (some ⟨w.heap.size, 0, none⟩), .pointer (some ⟨w.heap.size + 1, 0, none⟩), .slice none 0 0, .slice none 0 0] 47) none)
  rw [s1] at h2
  have hg0 := hb.size
  refine ⟨w.heap.size, w.heap.size + 1, _, _, fun _ => False, .slice none 0 0, .slice none 0 0, [], Rg.none, [], [], ⟨by rw [hw1]; exact h1, by rw [hw1]; exact h2, fun k hk hg => by omega, ?_, fun h => by omega, fun h => by omega, by omega, ⟨fun k h => h.elim, fun W _ => ⟨⟨rfl, none, 0, 0, 0, rfl, fun h => absurd h (by simp), fun j v h => by simp at h⟩, ⟨rfl, none, 0, 0, 0, rfl, fun h => absurd h (by simp), fun j v h => by simp at h⟩, rfl, fun pr h => by simp at h⟩⟩, ⟨fun n c h => by cases h; exact ⟨rfl, rfl⟩, fun n c h => by cases h; exact ⟨rfl, rfl⟩, fun u h => by simp at h⟩, fun k h => h.elim, fun id h => by simp at h, fun l h => by simp at h⟩, by simp [Rg.none], by simp [Rg.none], by simp, by simp⟩
  rw [hw1, ← s2]
  exact alloc_at _ _
end
end Go.Proofs.YtgdnndapmcjoeaaDoor
