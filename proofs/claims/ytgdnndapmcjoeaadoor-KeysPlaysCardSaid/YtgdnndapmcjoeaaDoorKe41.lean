import Derived.Test.YtgdnndapmcjoeaaDoorKe06
import Derived.Test.YtgdnndapmcjoeaaDoorKe37
import Derived.Test.YtgdnndapmcjoeaaDoorKe40
namespace Go.Proofs.YtgdnndapmcjoeaaDoor
open Go.RowKit Go.Maps
set_option linter.unusedVariables false
structure PS (W0 : World) (p c b m : Nat) (F G J : Nat → Prop) (iv tv : Value) (us : List Value) (ac : Array Value) (sp sd : Rg) (ids : List ByteArray) (told : List (List Nat)) (w : World) : Prop where
  hp : PrG W0 F b sp w
  hr : RefG W0 G m sd w
  ap : ∀ k, F k → ¬ G k
  blk : w.heap[p]? = some (.cells #[.pointer (some ⟨b, 0, none⟩), .pointer (some ⟨m, 0, none⟩), iv, tv] 47 (0, 0))
  pF : ¬ F p
  pG : ¬ G p
  pb : W0.heap.size ≤ p
  cb : w.heap[c]? = some (.cells ac 49 (0, 0))
  cF : ¬ F c
  cG : ¬ G c
  cp : c ≠ p
  rows : Sup J w (fun W => RowV W iv 1 ids.length (ids.map Value.string) ∧ RowV W tv 1 told.length us ∧ us.length = told.length ∧ ∀ pr ∈ told.zip us, Bytes W pr.2 pr.1)
  w0 : Whole0 iv ∧ Whole0 tv ∧ ∀ u ∈ us, Whole0 u
  jn : ∀ k, J k → ¬ F k ∧ k ≠ m ∧ k ≠ p
  kn : ∀ id ∈ ids, (sd.get id).isSome = true ∧ id.size = 32
  tl : ∀ l ∈ told, l.length = 32
section
variable {A : Nat → Addr} {W0 w w' : World} {p c b m : Nat} {F F' G J : Nat → Prop} {iv tv : Value} {us : List Value} {ac : Array Value} {sp sd s' : Rg} {ids : List ByteArray} {told : List (List Nat)}
theorem PS.turnF (h : PS W0 p c b m F G J iv tv us ac sp sd ids told w) (ht : Turn F F' w w') (hp' : PrG W0 F' b s' w') : PS W0 p c b m F' G J iv tv us ac s' sd ids told w' := by
  have hF : ∀ k, k < w.heap.size → ¬ F k → ¬ F' k := fun k hk hn hf => hn (ht.mine k hk hf)
  have keep : ∀ {k o}, w.heap[k]? = some o → ¬ F k → w'.heap[k]? = some o := fun hk hn => (ht.upto.block _ (blk_lt hk) hn).trans hk
  refine ⟨hp', h.hr.other (fun k hk => (h.hp.own k hk).1) ht.upto h.ap, fun k hk hg => ?_, keep h.blk h.pF, hF _ (blk_lt h.blk) h.pF, h.pG, h.pb, keep h.cb h.cF, hF _ (blk_lt h.cb) h.cF, h.cG, h.cp, h.rows.upto ht.upto (fun k hk => (h.jn k hk).1), h.w0, fun k hk => ⟨hF k (h.rows.lt k hk) (h.jn k hk).1, (h.jn k hk).2⟩, h.kn, h.tl⟩
  have hlt := h.hr.lt k hg
  exact h.ap k (ht.mine k hlt hk) hg
theorem PS.still (h : PS W0 p c b m F G J iv tv us ac sp sd ids told w) (hg : w.grownBy w' none) : PS W0 p c b m F G J iv tv us ac sp sd ids told w' :=
  h.turnF (Turn.of_grown hg) (h.hp.still hg)
theorem PS.turnG (h : PS W0 p c b m F G J iv tv us ac sp sd ids told w) (hu : Upto (fun k => k = m) w w') (hr' : RefG W0 (fun k => G k ∨ w.heap.size ≤ k ∧ k < w'.heap.size) m s' w') (hk' : ∀ id ∈ ids, (s'.get id).isSome = true) :
    PS W0 p c b m F (fun k => G k ∨ w.heap.size ≤ k ∧ k < w'.heap.size) J iv tv us ac sp s' ids told w' := by
  have hmG := h.hr.mem
  have keep : ∀ {k o}, w.heap[k]? = some o → ¬ G k → w'.heap[k]? = some o := fun hk hn => (hu.block _ (blk_lt hk) (fun e => hn (by rw [e]; exact hmG))).trans hk
  have hnot : ∀ {k o}, w.heap[k]? = some o → ¬ G k → ¬ (G k ∨ w.heap.size ≤ k ∧ k < w'.heap.size) := fun hk hn hg => hg.elim hn (fun h => by have := blk_lt hk; omega)
  refine ⟨h.hp.other (G := fun k => k = m) (G' := fun k => k = m) (fun k hk => by rw [hk]; exact h.hr.big) ⟨hu, fun k _ hk => hk⟩ (fun k hk hf => by subst hk; exact h.ap _ hf hmG), hr', fun k hk hg => ?_, keep h.blk h.pG, h.pF, hnot h.blk h.pG, h.pb, keep h.cb h.cG, h.cF, hnot h.cb h.cG, h.cp, h.rows.upto hu (fun k hk => (h.jn k hk).2.1), h.w0, h.jn, fun id hid => ⟨hk' id hid, (h.kn id hid).2⟩, h.tl⟩
  rcases hg with hg | hg
  · exact h.ap k hk hg
  · have := (h.hp.own k hk).2; omega
/-- The play's own block is turned. -/
theorem PS.turnP (h : PS W0 p c b m F G J iv tv us ac sp sd ids told w) {w9 : World} (hg : w.grownBy w9 none) {i : Nat} {x iv' tv' : Value} {us' : List Value} {ids' : List ByteArray} {told' : List (List Nat)} {J' : Nat → Prop}
    (hb : (#[.pointer (some ⟨b, 0, none⟩), .pointer (some ⟨m, 0, none⟩), iv, tv] : Array Value).setIfInBounds i x = #[.pointer (some ⟨b, 0, none⟩), .pointer (some ⟨m, 0, none⟩), iv', tv'])
    (hw : w' = w9.setCell ⟨p, i, none⟩ x) (hrows : Sup J' w9 (fun W => RowV W iv' 1 ids'.length (ids'.map Value.string) ∧ RowV W tv' 1 told'.length us' ∧ us'.length = told'.length ∧ ∀ pr ∈ told'.zip us', Bytes W pr.2 pr.1))
    (hw0 : Whole0 iv' ∧ Whole0 tv' ∧ ∀ u ∈ us', Whole0 u) (hjn : ∀ k, J' k → ¬ F k ∧ k ≠ m ∧ k ≠ p) (hkn : ∀ id ∈ ids', (sd.get id).isSome = true ∧ id.size = 32) (htl : ∀ l ∈ told', l.length = 32) :
    PS W0 p c b m F G J' iv' tv' us' ac sp sd ids' told' w' := by
  have h9 := h.still hg
  have hu : Upto (fun k => k = p) w9 w' := by
    subst hw
    exact ⟨rfl, rfl, rfl, by rw [setCell_size]; exact Nat.le_refl _, fun k hk hn => Below.heap_setCell _ _ _ _ hn⟩
  refine ⟨h9.hp.other (G := fun k => k = p) (G' := fun k => k = p) (fun k hk => by rw [hk]; exact h.pb) ⟨hu, fun k _ hk => hk⟩ (fun k hk hf => by subst hk; exact h.pF hf), h9.hr.other (fun k hk => by rw [hk]; exact h.pb) hu (fun k hk hf => by subst hk; exact h.pG hf), h.ap, ?_, h.pF, h.pG, h.pb, (hu.block _ (blk_lt h9.cb) h.cp).trans h9.cb, h.cF, h.cG, h.cp, hrows.upto hu (fun k hk => (hjn k hk).2.2), hw0, hjn, hkn, htl⟩
  subst hw
  have := setCell_heap (i := i) h9.blk x
  rw [hb] at this
  exact this
def acts (k key old : Int) (dom : ByteArray) (vb vm : Value) : Array Value := #[.int .i64 k, .int .i64 key, .int .i64 old, .string dom, vb, vm]
/-- What an act leaves. -/
def PX (W0 : World) (p c : Nat) (ac : Array Value) (N : Nat) (w : World) : Prop :=
  ∃ b m F G J iv tv us s ids told, PS W0 p c b m F G J iv tv us ac s s ids told w ∧ s.ks.length ≤ N ∧ s.bk.length ≤ N ∧ ids.length ≤ N ∧ told.length ≤ N
def DoOut (W0 : World) (p c : Nat) (ac : Array Value) (N : Nat) (e : Ending) (w' : World) : Prop := e = .returned (.bool true) ∧ PX W0 p c ac (N + 1) w'
theorem DoOut.same {N : Nat} (h : PS W0 p c b m F G J iv tv us ac sp sp ids told w) (h1 : sp.ks.length ≤ N) (h2 : sp.bk.length ≤ N) (h3 : ids.length ≤ N) (h4 : told.length ≤ N) : DoOut W0 p c ac N (.returned (.bool true)) w :=
  ⟨rfl, b, m, F, G, J, iv, tv, us, sp, ids, told, h, by omega, by omega, by omega, by omega⟩
/-- The number that an act speaks of. -/
def idOf (ids : List ByteArray) (key : Int) : ByteArray := if ids.length = 0 then ⟨#[110, 111, 110, 101]⟩ else ids.getD ((key % 18446744073709551616).toNat % ids.length) ⟨#[]⟩
theorem idOf_size {ids : List ByteArray} (h : ∀ id ∈ ids, id.size = 32) (key : Int) : (idOf ids key).size ≤ 1000 := by
  unfold idOf
  split
  · decide
  · rename_i h0
    have hlt : (key % 18446744073709551616).toNat % ids.length < ids.length := Nat.mod_lt _ (by omega)
    rw [List.getD_eq_getElem?_getD, List.getElem?_eq_getElem hlt]
    have := h _ (List.getElem_mem hlt)
    exact Nat.le_trans (Nat.le_of_eq this) (by decide)
theorem u64n {n : Nat} (h : n ≤ 1000) : IntKind.u64.wrap (n : Int) = (n : Int) := by
  show (n : Int) % 18446744073709551616 = n
  omega
theorem idx_eq (key : Int) {n : Nat} (h : n ≤ 1000) (h0 : 0 < n) : wrap64 ((IntKind.u64.wrap key).tmod (n : Int)) = (((key % 18446744073709551616).toNat % n : Nat) : Int) := by
  have e : IntKind.u64.wrap key = key % 18446744073709551616 := rfl
  have h1 : 0 ≤ key % 18446744073709551616 := Int.emod_nonneg _ (by decide)
  obtain ⟨k, hk⟩ : ∃ k : Nat, key % 18446744073709551616 = k := ⟨(key % 18446744073709551616).toNat, by omega⟩
  rw [e, hk]
  have h2 : ((k : Int).tmod (n : Int)) = ((k % n : Nat) : Int) := by
    rw [Int.tmod_eq_emod_of_nonneg (by omega)]; rfl
  have h3 : k % n < n := Nat.mod_lt _ h0
  rw [h2, Int.toNat_natCast]
  unfold wrap64
  omega
end
end Go.Proofs.YtgdnndapmcjoeaaDoor
namespace Go.Proofs.YtgdnndapmcjoeaaDoor
open Go.RowKit Go.Maps
set_option linter.unusedVariables false
set_option maxRecDepth 100000 in
set_option maxHeartbeats 2000000 in
theorem do_wrong_e (A : Nat → Addr) (W0 w : World) (p b m N : Nat) (F G J : Nat → Prop) (iv tv : Value) (us : List Value) (s : Rg) (ids : List ByteArray) (told : List (List Nat)) (key old : Int) (dom : ByteArray) (va : Option Addr) (n vc : Nat) (ma : Option Addr) (ml mc : Nat) (bs msg : List Nat)
    (h : PS W0 p w.heap.size b m F G J iv tv us (acts 0 key old dom (.slice va n vc) (.slice ma ml mc)) s s ids told (w.alloc (.cells (acts 0 key old dom (.slice va n vc) (.slice ma ml mc)) 49)))
    (hE : AllErrs W0 A) (hLd : Laid W0) (hv : Bytes W0 (.slice va n vc) bs) (hv0 : Whole0 (.slice va n vc)) (hvn : bs.length = n) (hm : Bytes W0 (.slice ma ml mc) msg) (hm0 : Whole0 (.slice ma ml mc)) (hml : msg.length = ml) (hn2 : n ≤ 200) (hml2 : ml ≤ 200) (hd : dom.size ≤ 100) (hN : N ≤ 100) (hks : s.ks.length ≤ N) (hbk : s.bk.length ≤ N) (hil : ids.length ≤ N) (htl : told.length ≤ N) (hi0 : ids.length = 0) (hne0 : n ≠ 32) :
    Calls Tryd.prog 15 #[.pointer (some ⟨p, 0, none⟩), .agg (acts 0 key old dom (.slice va n vc) (.slice ma ml mc))] w fun e w' => DoOut W0 p w.heap.size (acts 0 key old dom (.slice va n vc) (.slice ma ml mc)) N e w' := by
  obtain ⟨w1, hw1⟩ : ∃ w1, w1 = w.alloc (.cells (acts 0 key old dom (.slice va n vc) (.slice ma ml mc)) 49) := ⟨_, rfl⟩
  have HW1 := Lib.hid hw1
  rw [← hw1] at h
  have HH := Lib.hid h
  have HE := Lib.hid hE
  have HLd := Lib.hid hLd
  have HV := Lib.hid hv
  have HV0 := Lib.hid hv0
  have HVn := Lib.hid hvn
  have HM := Lib.hid hm
  have HM0 := Lib.hid hm0
  have HMl := Lib.hid hml
  have HN := Lib.hid (show N ≤ 100 ∧ s.ks.length ≤ N ∧ s.bk.length ≤ N ∧ ids.length ≤ N ∧ told.length ≤ N ∧ n ≤ 200 ∧ ml ≤ 200 ∧ dom.size ≤ 100 from ⟨hN, hks, hbk, hil, htl, hn2, hml2, hd⟩)
  have HC : Hid (∀ W : World, W.heap[w.heap.size]? = some (.cells (acts 0 key old dom (.slice va n vc) (.slice ma ml mc)) 49 (0, 0)) → W.cell? ⟨w.heap.size, 0, none⟩ = some (.int .i64 0) ∧ W.cell? ⟨w.heap.size, 1, none⟩ = some (.int .i64 key) ∧ W.cell? ⟨w.heap.size, 2, none⟩ = some (.int .i64 old) ∧ W.cell? ⟨w.heap.size, 3, none⟩ = some (.string dom) ∧ W.cell? ⟨w.heap.size, 4, none⟩ = some (.slice va n vc) ∧ W.cell? ⟨w.heap.size, 5, none⟩ = some (.slice ma ml mc)) := Lib.hid (fun W hW => ⟨cell_blk hW 0 rfl, cell_blk hW 1 rfl, cell_blk hW 2 rfl, cell_blk hW 3 rfl, cell_blk hW 4 rfl, cell_blk hW 5 rfl⟩)
  have hidz := idOf_size (fun id hid => (h.kn id hid).2) key
  have HIZ : Hid ((idOf ids key).size ≤ 1000) := Lib.hid hidz
  obtain ⟨_, ia, ig, io, ic, hiv, i2, i3⟩ := h.rows.now.1
  obtain ⟨_, ta, tg, tof, tc, htv, t2, t3⟩ := h.rows.now.2.1
  subst hiv
  subst htv
  have HNE := Lib.hid hne0
  obtain ⟨L, hL⟩ : ∃ L, L = ids.length := ⟨_, rfl⟩
  obtain ⟨TL, hTL⟩ : ∃ TL, TL = told.length := ⟨_, rfl⟩
  have HLL : Hid (L = ids.length ∧ TL = told.length) := Lib.hid ⟨hL, hTL⟩
  have HB : Hid (∀ W : World, W.heap[p]? = some (.cells #[.pointer (some ⟨b, 0, none⟩), .pointer (some ⟨m, 0, none⟩), .slice ia L ic, .slice ta TL tc] 47 (0, 0)) → W.cell? ⟨p, 0, none⟩ = some (.pointer (some ⟨b, 0, none⟩)) ∧ W.cell? ⟨p, 1, none⟩ = some (.pointer (some ⟨m, 0, none⟩)) ∧ W.cell? ⟨p, 2, none⟩ = some (.slice ia L ic) ∧ W.cell? ⟨p, 3, none⟩ = some (.slice ta TL tc)) := Lib.hid (fun W hW => ⟨cell_blk hW 0 rfl, cell_blk hW 1 rfl, cell_blk hW 2 rfl, cell_blk hW 3 rfl⟩)
  have HBW : Hid (∀ (F' G' : Nat → Prop) (sp sd : Rg) (W : World), PS W0 p w.heap.size b m F' G' J (.slice ia ids.length ic) (.slice ta told.length tc) us (acts 0 key old dom (.slice va n vc) (.slice ma ml mc)) sp sd ids told W → W.heap[p]? = some (.cells #[.pointer (some ⟨b, 0, none⟩), .pointer (some ⟨m, 0, none⟩), .slice ia L ic, .slice ta TL tc] 47 (0, 0))) := Lib.hid (fun F' G' sp sd W h => by rw [hL, hTL]; exact h.blk)
  have hblk := HBW.out _ _ _ _ _ h
  obtain ⟨hb0, hb1, hb2, hb3⟩ := HB.out _ hblk
  obtain ⟨q0, q1, q2, q3, q4, q5⟩ := HC.out _ h.cb
  have hLn : ¬ (0 : Int) < (L : Int) := by omega
  have hI : (⟨#[110, 111, 110, 101]⟩ : ByteArray) = idOf ids key := by unfold idOf; rw [if_pos hi0]
  obtain ⟨hx0, hx1, hx2', hx3, hx4, hx5⟩ := HC.out (w.alloc (.cells (acts 0 key old dom (.slice va n vc) (.slice ma ml mc)) 49)) (by rw [← hw1]; exact h.cb)
  obtain ⟨hy0, hy1, hy2, hy3⟩ := HB.out (w.alloc (.cells (acts 0 key old dom (.slice va n vc) (.slice ma ml mc)) 49)) (by rw [← hw1]; exact hblk)
  have HII := Lib.hid hI
  have HI0 := Lib.hid hi0
  have H2 := Lib.hid h
  have G2 : Hid (w1.grownBy w1 none) := Lib.hid (grown_refl _ _)
  clear hw1 h hE hLd hL hTL hI i2 hv hv0 hvn hm hm0 hml hn2 hml2 hd hN hks hbk hil htl hidz hblk hi0 hne0 t2 i3 t3
  go_enter Tryd.func15, Tryd.ntmps15
  go_wp2
  rw [← HW1.out]
  clear hx0 hx1 hx2' hx3 hx4 hx5 hy0 hy1 hy2 hy3
  obtain ⟨w2, hw2⟩ : ∃ w2, w2 = w1 := ⟨_, rfl⟩
  subst hw2
  have HAd : Hid (∀ W, w2.grownBy W none → Calls Tryd.prog 18 #[.pointer (some ⟨b, 0, none⟩), .slice va n vc] W fun e w' => e = .returned (.tuple #[.string ⟨#[]⟩, errV A 4]) ∧ W.grownBy w' none) := Lib.hid (fun W hW => gadd_wrong A W b va n vc HNE.out (by have := HN.out; omega) (HE.out.grown (grown_trans H2.out.hp.base hW)))
  have hne : ¬ (n : Int) = 32 := by have := HNE.out; omega
  go_wp2
  refine go_start (by kernel_rfl) (go_seg (fun w' => ∃ n, w' = w2.drewN n) 6 (by kernel_rfl) ⟨1, rfl⟩ ?_)
  simp only [List.drop_succ_cons, List.drop_zero, Nat.sub_zero, Nat.reduceSub, List.take_succ_cons, List.take_zero]
  repeat (go_big_quiet_step (fail))
  refine wpQuiet_nil ?_
  rintro _ ⟨n3, rfl⟩
  refine go_one (by kernel_rfl) _ rfl ?_
  go_wp2_with (go_at_call 18; refine (HAd.out _ (grown_drewN (grown_refl _ _) _)).mono ?_; rintro e w3 ⟨rfl, hg3⟩; have G3 : Hid (w2.grownBy w3 none) := Lib.hid (grown_trans (grown_drewN (grown_refl _ _) _) hg3); clear hg3)
  refine go_seg (fun w' => ∃ n, w' = w3.drewN n) 12 (by kernel_rfl) ⟨0, rfl⟩ ?_
  simp only [List.drop_succ_cons, List.drop_zero, Nat.sub_zero, Nat.reduceSub, List.take_succ_cons, List.take_zero]
  repeat (go_big_quiet_step (fail))
  refine wpQuiet_nil ?_
  rintro _ ⟨n4, rfl⟩
  refine go_end ?_
  obtain ⟨w4, hww4⟩ : ∃ w4, w4 = w3.drewN n4 := ⟨_, rfl⟩
  rw [← hww4]
  have G4 : Hid (w2.grownBy w4 none) := Lib.hid (by rw [hww4]; exact grown_drewN G3.out _)
  have H4 := Lib.hid (H2.out.still G4.out)
  clear hww4 q0 q1 q2 q3 q4 q5 hb0 hb1 hb2 hb3
  obtain ⟨q0, q1, q2, q3, q4, q5⟩ := HC.out _ H4.out.cb
  have HNm : Hid (∀ W, w4.grownBy W none → Calls Tryd.prog 11 #[errV A 4] W fun e w' => e = .returned (.int .i64 4) ∧ W.grownBy w' none) := Lib.hid (fun W hW => by
    have := num_of A 4 (by decide) W (HE.out.grown (grown_trans H4.out.hp.base hW))
    rw [errOf, if_neg (by decide)] at this
    exact this)
  go_wp2_with (go_at_call 11; refine (HNm.out _ (grown_refl _ _)).mono ?_; rintro e w5 ⟨rfl, hg5⟩; have G5 := Lib.hid hg5; clear hg5)
  go_ret
  exact DoOut.same (H4.out.still G5.out) HN.out.2.1 HN.out.2.2.1 HN.out.2.2.2.1 HN.out.2.2.2.2.1
set_option maxRecDepth 100000 in
set_option maxHeartbeats 2000000 in
theorem do_wrong_n (A : Nat → Addr) (W0 w : World) (p b m N : Nat) (F G J : Nat → Prop) (iv tv : Value) (us : List Value) (s : Rg) (ids : List ByteArray) (told : List (List Nat)) (key old : Int) (dom : ByteArray) (va : Option Addr) (n vc : Nat) (ma : Option Addr) (ml mc : Nat) (bs msg : List Nat)
    (h : PS W0 p w.heap.size b m F G J iv tv us (acts 0 key old dom (.slice va n vc) (.slice ma ml mc)) s s ids told (w.alloc (.cells (acts 0 key old dom (.slice va n vc) (.slice ma ml mc)) 49)))
    (hE : AllErrs W0 A) (hLd : Laid W0) (hv : Bytes W0 (.slice va n vc) bs) (hv0 : Whole0 (.slice va n vc)) (hvn : bs.length = n) (hm : Bytes W0 (.slice ma ml mc) msg) (hm0 : Whole0 (.slice ma ml mc)) (hml : msg.length = ml) (hn2 : n ≤ 200) (hml2 : ml ≤ 200) (hd : dom.size ≤ 100) (hN : N ≤ 100) (hks : s.ks.length ≤ N) (hbk : s.bk.length ≤ N) (hil : ids.length ≤ N) (htl : told.length ≤ N) (hi0 : 0 < ids.length) (hne0 : n ≠ 32) :
    Calls Tryd.prog 15 #[.pointer (some ⟨p, 0, none⟩), .agg (acts 0 key old dom (.slice va n vc) (.slice ma ml mc))] w fun e w' => DoOut W0 p w.heap.size (acts 0 key old dom (.slice va n vc) (.slice ma ml mc)) N e w' := by
  obtain ⟨w1, hw1⟩ : ∃ w1, w1 = w.alloc (.cells (acts 0 key old dom (.slice va n vc) (.slice ma ml mc)) 49) := ⟨_, rfl⟩
  have HW1 := Lib.hid hw1
  rw [← hw1] at h
  have HH := Lib.hid h
  have HE := Lib.hid hE
  have HLd := Lib.hid hLd
  have HV := Lib.hid hv
  have HV0 := Lib.hid hv0
  have HVn := Lib.hid hvn
  have HM := Lib.hid hm
  have HM0 := Lib.hid hm0
  have HMl := Lib.hid hml
  have HN := Lib.hid (show N ≤ 100 ∧ s.ks.length ≤ N ∧ s.bk.length ≤ N ∧ ids.length ≤ N ∧ told.length ≤ N ∧ n ≤ 200 ∧ ml ≤ 200 ∧ dom.size ≤ 100 from ⟨hN, hks, hbk, hil, htl, hn2, hml2, hd⟩)
  have HC : Hid (∀ W : World, W.heap[w.heap.size]? = some (.cells (acts 0 key old dom (.slice va n vc) (.slice ma ml mc)) 49 (0, 0)) → W.cell? ⟨w.heap.size, 0, none⟩ = some (.int .i64 0) ∧ W.cell? ⟨w.heap.size, 1, none⟩ = some (.int .i64 key) ∧ W.cell? ⟨w.heap.size, 2, none⟩ = some (.int .i64 old) ∧ W.cell? ⟨w.heap.size, 3, none⟩ = some (.string dom) ∧ W.cell? ⟨w.heap.size, 4, none⟩ = some (.slice va n vc) ∧ W.cell? ⟨w.heap.size, 5, none⟩ = some (.slice ma ml mc)) := Lib.hid (fun W hW => ⟨cell_blk hW 0 rfl, cell_blk hW 1 rfl, cell_blk hW 2 rfl, cell_blk hW 3 rfl, cell_blk hW 4 rfl, cell_blk hW 5 rfl⟩)
  have hidz := idOf_size (fun id hid => (h.kn id hid).2) key
  have HIZ : Hid ((idOf ids key).size ≤ 1000) := Lib.hid hidz
  obtain ⟨_, ia, ig, io, ic, hiv, i2, i3⟩ := h.rows.now.1
  obtain ⟨_, ta, tg, tof, tc, htv, t2, t3⟩ := h.rows.now.2.1
  subst hiv
  subst htv
  have HNE := Lib.hid hne0
  obtain ⟨L, hL⟩ : ∃ L, L = ids.length := ⟨_, rfl⟩
  obtain ⟨TL, hTL⟩ : ∃ TL, TL = told.length := ⟨_, rfl⟩
  have HLL : Hid (L = ids.length ∧ TL = told.length) := Lib.hid ⟨hL, hTL⟩
  have HB : Hid (∀ W : World, W.heap[p]? = some (.cells #[.pointer (some ⟨b, 0, none⟩), .pointer (some ⟨m, 0, none⟩), .slice ia L ic, .slice ta TL tc] 47 (0, 0)) → W.cell? ⟨p, 0, none⟩ = some (.pointer (some ⟨b, 0, none⟩)) ∧ W.cell? ⟨p, 1, none⟩ = some (.pointer (some ⟨m, 0, none⟩)) ∧ W.cell? ⟨p, 2, none⟩ = some (.slice ia L ic) ∧ W.cell? ⟨p, 3, none⟩ = some (.slice ta TL tc)) := Lib.hid (fun W hW => ⟨cell_blk hW 0 rfl, cell_blk hW 1 rfl, cell_blk hW 2 rfl, cell_blk hW 3 rfl⟩)
  have HBW : Hid (∀ (F' G' : Nat → Prop) (sp sd : Rg) (W : World), PS W0 p w.heap.size b m F' G' J (.slice ia ids.length ic) (.slice ta told.length tc) us (acts 0 key old dom (.slice va n vc) (.slice ma ml mc)) sp sd ids told W → W.heap[p]? = some (.cells #[.pointer (some ⟨b, 0, none⟩), .pointer (some ⟨m, 0, none⟩), .slice ia L ic, .slice ta TL tc] 47 (0, 0))) := Lib.hid (fun F' G' sp sd W h => by rw [hL, hTL]; exact h.blk)
  have hblk := HBW.out _ _ _ _ _ h
  obtain ⟨hb0, hb1, hb2, hb3⟩ := HB.out _ hblk
  obtain ⟨q0, q1, q2, q3, q4, q5⟩ := HC.out _ h.cb
  obtain ⟨j, hj⟩ : ∃ j, j = (key % 18446744073709551616).toNat % ids.length := ⟨_, rfl⟩
  have hjL : j < L := by rw [hj, hL]; exact Nat.mod_lt _ hi0
  obtain ⟨rfl, igl⟩ := i2 hi0
  obtain ⟨I, hI⟩ : ∃ I, I = idOf ids key := ⟨_, rfl⟩
  have ej := i3 j (.string I) (by
    rw [hI]
    unfold idOf
    rw [if_neg (by omega), ← hj, List.getElem?_map, List.getD_eq_getElem?_getD, List.getElem?_eq_getElem (by omega)]; rfl)
  have hw64 := u64n (n := ids.length) (by omega)
  have hidx := idx_eq key (n := ids.length) (by omega) hi0
  rw [← hj, ← hL] at hidx
  rw [← hL] at hw64
  have hL0 : ¬ (L : Int) = 0 := by omega
  have hLg : (0 : Int) < (L : Int) := by omega
  have hjL' : (j : Int) < (L : Int) := by omega
  have hj0 : (0 : Int) ≤ (j : Int) := by omega
  have hx2 : (w.alloc (.cells (acts 0 key old dom (.slice va n vc) (.slice ma ml mc)) 49)).cell? ⟨p, 2, none⟩ = some (.slice (some ⟨ig, io, none⟩) L ic) := by rw [← hw1]; exact hb2
  have HII : Hid (I = idOf ids key) := Lib.hid hI
  have HI0 := Lib.hid hi0
  clear hw1 h hE hLd hL hTL hj hI i2 hv hv0 hvn hm hm0 hml hn2 hml2 hd hN hks hbk hil htl hidz hblk hi0 hne0 t2 i3 t3
  go_enter Tryd.func15, Tryd.ntmps15
  go_wp2
  rw [← HW1.out]
  go_quiet (fail)
  obtain ⟨w2, hw2⟩ : ∃ w2, w2 = w1.drewN nq := ⟨_, rfl⟩
  rw [← hw2]
  have G2 : Hid (w1.grownBy w2 none) := Lib.hid (by rw [hw2]; exact grown_drewN (grown_refl _ _) _)
  have H2 := Lib.hid (HH.out.still G2.out)
  clear hw2 hb0 hb1 hb2 hb3 q0 q1 q2 q3 q4 q5 ej hidx hw64 hx2 hjL hjL' hj0 hL0 hLg
  obtain ⟨q0, q1, q2, q3, q4, q5⟩ := HC.out _ H2.out.cb
  obtain ⟨hb0, hb1, hb2, hb3⟩ := HB.out _ (HBW.out _ _ _ _ _ H2.out)
  have HAd : Hid (∀ W, w2.grownBy W none → Calls Tryd.prog 18 #[.pointer (some ⟨b, 0, none⟩), .slice va n vc] W fun e w' => e = .returned (.tuple #[.string ⟨#[]⟩, errV A 4]) ∧ W.grownBy w' none) := Lib.hid (fun W hW => gadd_wrong A W b va n vc HNE.out (by have := HN.out; omega) (HE.out.grown (grown_trans H2.out.hp.base hW)))
  have hne : ¬ (n : Int) = 32 := by have := HNE.out; omega
  go_wp2
  refine go_start (by kernel_rfl) (go_seg (fun w' => ∃ n, w' = w2.drewN n) 6 (by kernel_rfl) ⟨1, rfl⟩ ?_)
  simp only [List.drop_succ_cons, List.drop_zero, Nat.sub_zero, Nat.reduceSub, List.take_succ_cons, List.take_zero]
  repeat (go_big_quiet_step (fail))
  refine wpQuiet_nil ?_
  rintro _ ⟨n3, rfl⟩
  refine go_one (by kernel_rfl) _ rfl ?_
  go_wp2_with (go_at_call 18; refine (HAd.out _ (grown_drewN (grown_refl _ _) _)).mono ?_; rintro e w3 ⟨rfl, hg3⟩; have G3 : Hid (w2.grownBy w3 none) := Lib.hid (grown_trans (grown_drewN (grown_refl _ _) _) hg3); clear hg3)
  refine go_seg (fun w' => ∃ n, w' = w3.drewN n) 12 (by kernel_rfl) ⟨0, rfl⟩ ?_
  simp only [List.drop_succ_cons, List.drop_zero, Nat.sub_zero, Nat.reduceSub, List.take_succ_cons, List.take_zero]
  repeat (go_big_quiet_step (fail))
  refine wpQuiet_nil ?_
  rintro _ ⟨n4, rfl⟩
  refine go_end ?_
  obtain ⟨w4, hww4⟩ : ∃ w4, w4 = w3.drewN n4 := ⟨_, rfl⟩
  rw [← hww4]
  have G4 : Hid (w2.grownBy w4 none) := Lib.hid (by rw [hww4]; exact grown_drewN G3.out _)
  have H4 := Lib.hid (H2.out.still G4.out)
  clear hww4 q0 q1 q2 q3 q4 q5 hb0 hb1 hb2 hb3
  obtain ⟨q0, q1, q2, q3, q4, q5⟩ := HC.out _ H4.out.cb
  have HNm : Hid (∀ W, w4.grownBy W none → Calls Tryd.prog 11 #[errV A 4] W fun e w' => e = .returned (.int .i64 4) ∧ W.grownBy w' none) := Lib.hid (fun W hW => by
    have := num_of A 4 (by decide) W (HE.out.grown (grown_trans H4.out.hp.base hW))
    rw [errOf, if_neg (by decide)] at this
    exact this)
  go_wp2_with (go_at_call 11; refine (HNm.out _ (grown_refl _ _)).mono ?_; rintro e w5 ⟨rfl, hg5⟩; have G5 := Lib.hid hg5; clear hg5)
  go_ret
  exact DoOut.same (H4.out.still G5.out) HN.out.2.1 HN.out.2.2.1 HN.out.2.2.2.1 HN.out.2.2.2.2.1
end Go.Proofs.YtgdnndapmcjoeaaDoor
namespace Go.Proofs.YtgdnndapmcjoeaaDoor
open Go.RowKit Go.Maps
set_option linter.unusedVariables false
theorem kStrInfo : (Tryd.prog.info? 9).map (fun i => (i.zero, i.size, i.bytes)) = some (some (.string ⟨#[]⟩), 1, 16) := by kernel_rfl
theorem kSlInfo : (Tryd.prog.info? 22).map (fun i => (i.zero, i.size, i.bytes)) = some (some (.slice none 0 0), 1, 24) := by kernel_rfl
theorem Rg.add_isSome {s : Rg} {id : ByteArray} {k : List Nat} : ((s.add id k).get id).isSome = true := by
  cases h : s.get id with
  | none => rw [Rg.get_add_same h]; rfl
  | some k0 => rw [Rg.get_add_keep h]; rfl
theorem Rg.add_len {s : Rg} {id : ByteArray} {k : List Nat} : (s.add id k).ks.length ≤ s.ks.length + 1 := by
  cases h : s.get id with
  | none => rw [Rg.add_new h]; simp
  | some k0 => rw [Rg.add_has h]; omega
theorem recE_le (s : Rg) (id dom : ByteArray) (m : List Nat) : recE s id dom m ≤ 28 := by
  unfold recE
  split
  · decide
  · unfold fErr
    repeat' split
    all_goals decide
section
variable {A : Nat → Addr} {W0 w w' : World} {p c b m N : Nat} {F F' G J : Nat → Prop} {iv tv : Value} {us : List Value} {ac : Array Value} {sp sd s' : Rg} {ids : List ByteArray} {told : List (List Nat)}
theorem DoOut.mk (h : PS W0 p c b m F G J iv tv us ac sp sp ids told w) (h1 : sp.ks.length ≤ N + 1) (h2 : sp.bk.length ≤ N + 1) (h3 : ids.length ≤ N + 1) (h4 : told.length ≤ N + 1) : DoOut W0 p c ac N (.returned (.bool true)) w :=
  ⟨rfl, b, m, F, G, J, iv, tv, us, sp, ids, told, h, h1, h2, h3, h4⟩
/-- The keys' numbers are more by one. -/
theorem right_row {L c10 : Nat} {a10 : Option Addr} {I0 : ByteArray} {w6 w10 w11 : World} (h : PS W0 p c b m F G J iv tv us ac sp sd ids told w6) (hg : w6.grownBy w10 none)
    (ho : w10.ownsRow w6.heap.size 9 1 (.slice a10 (L + 1) c10) (L + 1) (ids.map Value.string ++ [.string I0])) (hL : L = ids.length) (hw : w11 = w10.setCell ⟨p, 2, none⟩ (.slice a10 (L + 1) c10)) (hk : (sd.get I0).isSome = true ∧ I0.size = 32) :
    PS W0 p c b m F G (fun k => J k ∨ w6.heap.size ≤ k ∧ k < w10.heap.size) (.slice a10 (L + 1) c10) tv us ac sp sd (ids ++ [I0]) told w11 := by
  have hpl := blk_lt h.blk
  have hml := h.hr.lt m h.hr.mem
  refine h.turnP hg (i := 2) (x := .slice a10 (L + 1) c10) (by simp) hw ⟨fun k hk => ?_, fun W hW => ?_⟩ ⟨whole_own ho, h.w0.2⟩ (fun k hk => ?_) (fun id hid => ?_) h.tl
  · rcases hk with hk | hk
    · exact Nat.lt_of_lt_of_le (h.rows.lt k hk) hg.size
    · exact hk.2
  · have h1 := (h.rows.grown hg).holds W (hW.mono (fun k hk => .inl hk))
    refine ⟨?_, h1.2⟩
    subst hL
    rw [List.length_append, List.map_append]
    exact row_keep (row_own ho) hW.size (fun _ k hk => by
      obtain ⟨a1, a2, _⟩ := own_at ho hk
      exact hW.block k (.inr ⟨a1, a2⟩))
  · rcases hk with hk | hk
    · exact h.jn k hk
    · exact ⟨fun hf => by have := (h.hp.own k hf).2; omega, by omega, by omega⟩
  · rcases List.mem_append.1 hid with hid | hid
    · exact h.kn id hid
    · simp at hid; rw [hid]; exact hk
end
end Go.Proofs.YtgdnndapmcjoeaaDoor
