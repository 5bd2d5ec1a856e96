import Derived.Test.YtgdnndapmcjoeaaDoorKe35
import Derived.Deep.RegionHeld3
namespace Go.Proofs.YtgdnndapmcjoeaaDoor
open Go.RowKit Go.Maps
set_option linter.unusedVariables false
theorem kLnInfo : (Tryd.prog.info? 98).map (fun i => (i.zero, i.size, i.bytes)) = some (some (.agg #[.string ⟨#[]⟩, .string ⟨#[]⟩, .string ⟨#[]⟩]), 3, 48) := by kernel_rfl
theorem row_blk {w : World} {b : Nat} {x y z : Value} {t : TypeId} (h : w.heap[b]? = some (.cells #[x, y, z] t (0, 0))) : RowV w (.slice (some ⟨b, 0, none⟩) 1 1) 3 1 [x, y, z] :=
  ⟨rfl, some ⟨b, 0, none⟩, b, 0, 1, rfl, fun _ => ⟨rfl, blk_lt h⟩, fun j v hj => by rw [Nat.zero_add]; exact cell_blk h j (by simpa using hj)⟩
theorem lnOnes (bk : List (ByteArray × ByteArray × ByteArray)) : ∀ y ∈ bk.flatMap lnC, y.oneCell' = true := fun y hy => by
  obtain ⟨p, _, hy⟩ := List.mem_flatMap.1 hy
  simp only [lnC, List.mem_cons, List.not_mem_nil, or_false] at hy
  rcases hy with rfl | rfl | rfl <;> rfl
set_option maxRecDepth 100000 in
set_option maxHeartbeats 4000000 in
theorem rgSign_new (w : World) (m : Nat) (kv bv : Value) (ks : List (ByteArray × List Nat)) (bk : List (ByteArray × ByteArray × ByteArray)) (id dom : ByteArray) (hd : dom.size ≤ 1000) (va : Option Addr) (n vc : Nat) (msg k : List Nat) (hB : Bytes w (.slice va n vc) msg) (hB0 : Whole0 (.slice va n vc)) (hb : w.heap[m]? = some (.cells #[kv, bv] 43 (0, 0))) (hK : KeysV w kv ks) (hl : ks.length ≤ 1000)
    (hR : LinesR w bv bk) (hbl : bk.length ≤ 1000) (hk : fd ks id = some k) (hk32 : k.length = 32) (he : fErr (strL dom) [msg] = 0) (hin : ¬ (id, dom, strOf msg) ∈ bk) :
    Calls Tryd.prog 26 #[.pointer (some ⟨m, 0, none⟩), .string id, .string dom, .slice va n vc] w fun e w' => ∃ a c wa va, e = .returned (.tuple #[.slice a 32 c, .int .i64 0]) ∧ Bytes w' (.slice a 32 c) (Hm.hmac k (frameOf (strL dom) [msg])) ∧ Whole0 (.slice a 32 c) ∧ (∀ k, At (.slice a 32 c) k → w.heap.size ≤ k) ∧ w.grownBy wa none ∧ wa.ownsRow w.heap.size 98 3 va (bk.length + 1) (bk.flatMap lnC ++ lnC (id, dom, strOf msg)) ∧ (wa.setCell ⟨m, 1, none⟩ va).grownBy w' none := by
  have ha := asked_any w m kv bv ks id dom hd va n vc msg hB hB0 hb hK (by omega)
  have e0 : askE ks id dom msg = 0 := by unfold askE; rw [hk, if_neg (by simp)]; exact he
  rw [e0] at ha
  have HA := Lib.hid ha
  have HFd : Hid (∀ W, w.grownBy W none → Calls Tryd.prog 37 #[.pointer (some ⟨m, 0, none⟩), .string id] W fun e w' => (∃ ya yc, e = .returned (.tuple #[.slice ya 32 yc, .bool true]) ∧ Bytes w' (.slice ya 32 yc) k ∧ Whole0 (.slice ya 32 yc)) ∧ W.grownBy w' none) := Lib.hid (fun W hW => by
    have := find_any W m kv bv ks id ((hW.block _ (blk_lt hb) (by simp)).trans hb) (hK.grown hW) (by omega)
    rw [hk] at this
    refine this.mono ?_
    rintro e w' ⟨hg, y, rfl, hy, hy0⟩
    have hy2 := hy.grown hg
    obtain ⟨_, ya, _, _, yc, rfl, _⟩ := hy
    rw [hk32] at hy2 hy0 ⊢
    exact ⟨⟨ya, yc, rfl, hy2, hy0⟩, hg⟩)
  obtain ⟨X, hX⟩ : ∃ X, X = strOf msg := ⟨_, rfl⟩
  have HIn : Hid (∀ W, w.grownBy W none → Calls Tryd.prog 41 #[.pointer (some ⟨m, 0, none⟩), .agg #[.string id, .string dom, .string X]] W fun e w' => e = .returned (.bool false) ∧ W.grownBy w' none) := Lib.hid (fun W hW => by
    have := inBook_any W m kv bv bk id dom X ((hW.block _ (blk_lt hb) (by simp)).trans hb) (hR.grown hW).lines (by omega)
    rw [hX, decide_eq_false hin] at this
    rw [hX]; exact this)
  have HCV : Hid (∀ W, w.grownBy W none → (convert 22 9 (.slice va n vc)).run Tryd.prog W = .ok (.string X) W) := Lib.hid (fun W hW => by rw [hX]; exact conv_bytes (hB.grown hW) _ 5 _ Tryd.underlying22 Tryd.underlying5 Tryd.underlying9)
  obtain ⟨K, hKk⟩ : ∃ K, K = Hm.hmac k (frameOf (strL dom) [msg]) := ⟨_, rfl⟩
  obtain ⟨D, hD⟩ : ∃ D, D = bytesV K := ⟨_, rfl⟩
  have hKl : K.length = 32 := by rw [hKk]; exact hmac_len _ _
  have hK8 : ∀ x ∈ K, x < 256 := by rw [hKk]; exact hmac_lt _ _
  have hDs : D.size = 32 := by rw [hD, bytesV_size, hKl]
  have HT : Hid (∀ W g ya yc, w.grownBy W none → W.heap[g]? = some (.cells #[.slice va n vc] 22 (0, 0)) → Bytes W (.slice ya 32 yc) k → Whole0 (.slice ya 32 yc) → Calls Tryd.prog 22 #[.slice ya 32 yc, .string dom, .slice (some ⟨g, 0, none⟩) 1 1] W fun e w' => e = .returned (.agg D) ∧ W.grownBy w' none) := Lib.hid (fun W g ya yc hW hg hy hy0 => by
    rw [hD, hKk]
    exact refTag_any _ k dom [msg] (some ⟨g, 0, none⟩) g 0 1 1 rfl W hy hy0 (by omega) (fun _ => ⟨rfl, blk_lt hg⟩) (one_part hg (hB.grown hW) hB0) (by omega) (by decide) he)
  have hz32 := zeros32_at w
  have HID : Hid ((Tryd.prog.info? 64).map (·.size) = some D.size) := Lib.hid (by rw [hDs]; kernel_rfl)
  have HIzD : Hid (zeros32.size = D.size) := Lib.hid (by rw [hDs]; rfl)
  have HOD : Hid (D.all (·.oneCell') = true) := Lib.hid (by rw [hD]; exact bytesV_one _)
  have HBy : Hid (∀ W g, W.heap[g]? = some (.cells D 64 (0, 0)) → Bytes W (.slice (some ⟨g, 0, none⟩) 32 32) K) := Lib.hid (fun W g h => by
    rw [hD] at h
    have := row_bytes hK8 h
    rw [hKl] at this; exact this)
  have HK8 := Lib.hid hK8
  have HKl := Lib.hid hKl
  have HU := Lib.hid uInfo
  have HLI := Lib.hid kLnInfo
  have HBb := Lib.hid hb
  obtain ⟨L, hL⟩ : ∃ L, L = bk.length := ⟨_, rfl⟩
  obtain ⟨XS, hXS⟩ : ∃ XS, XS = bk.flatMap lnC := ⟨_, rfl⟩
  have HR : Hid (∀ W, w.grownBy W none → RowV W bv 3 L XS) := Lib.hid (fun W hW => by rw [hL, hXS]; exact hR.1.grown hW)
  have HR0 := Lib.hid hR.2
  have HR1 : Hid (∀ y ∈ XS, y.oneCell' = true) := Lib.hid (by rw [hXS]; exact lnOnes bk)
  have HLn : Hid (L ≤ 1000) := Lib.hid (by rw [hL]; exact hbl)
  rw [← hKk, ← hX, ← hL, ← hXS]
  clear ha e0 hk hk32 he hB hB0 hb hK hl hX hKk hD hKl hK8 hDs hd hR hbl hin hL hXS
  go_enter Tryd.func26, Tryd.ntmps26
  go_wp2_with (first
    | (go_at_call 40; refine HA.out.mono ?_; rintro e w1 ⟨rfl, hg1⟩; have G1 := Lib.hid hg1; clear hg1)
    | (go_at_call 37; refine (HFd.out w1 G1.out).mono ?_; rintro e w2 ⟨⟨ya, yc, rfl, hy, hy0⟩, hg2⟩; have G2 := Lib.hid (grown_trans G1.out hg2); have Y2 := Lib.hid hy; have Z2 := Lib.hid hy0; clear hg2 hy hy0)
    | (go_at_call 22; obtain ⟨w3, hw3⟩ : ∃ w3, w3 = w2.alloc (.cells #[.slice va n vc] 22) := ⟨_, rfl⟩; rw [← hw3]; have g3 : w2.grownBy w3 none := (by rw [hw3]; exact World.grownBy_alloc _ _ _); refine (HT.out w3 w2.heap.size ya yc (grown_trans G2.out g3) (by rw [hw3]; exact alloc_at _ _) (Y2.out.grown g3) Z2.out).mono ?_; rintro e w4 ⟨rfl, hg4⟩; have G4 := Lib.hid (grown_trans G2.out (grown_trans g3 hg4)); have Z4 := Lib.hid (alloc_at w4 (.cells zeros32 64)); clear hg4 g3 hw3)
    | (refine wpList_store_row (by rfl) 64 (.tmp 13) (.tmp 33) (by rfl) w4.heap.size D (by rfl) (by rfl) _ _ Z4.out HID.out HIzD.out HOD.out ?_; obtain ⟨W5, hW5⟩ : ∃ W5, W5 = (w4.alloc (.cells zeros32 64)).setRow w4.heap.size D := ⟨_, rfl⟩; rw [← hW5]; have G5 : Hid (w.grownBy W5 none) := Lib.hid (by rw [hW5]; exact grown_setRow (grown_alloc G4.out _) G4.out.size _); have B5 : Hid (W5.heap[w4.heap.size]? = some (.cells D 64 (0, 0))) := Lib.hid (by rw [hW5]; exact setRow_heap _ _ _ _ _ _ Z4.out); have cv5 := HCV.out W5 G5.out; clear hW5)
    | (go_at_call 41; obtain ⟨w6, hw6⟩ : ∃ w6, w6 = W5.alloc (.cells #[.string id, .string dom, .string X] 98) := ⟨_, rfl⟩; rw [← hw6]; have g6 : W5.grownBy w6 none := (by rw [hw6]; exact World.grownBy_alloc _ _ _); have L6 : Hid (w6.heap[W5.heap.size]? = some (.cells #[.string id, .string dom, .string X] 98 (0, 0))) := Lib.hid (by rw [hw6]; exact alloc_at _ _); have G6 := Lib.hid (grown_trans G5.out g6); have B6 := Lib.hid ((g6.block _ (blk_lt B5.out) (by simp)).trans B5.out); refine (HIn.out w6 G6.out).mono ?_; rintro e w7 ⟨rfl, hg7⟩; have G7 := Lib.hid (grown_trans G6.out hg7); have B7 := Lib.hid ((hg7.block _ (blk_lt B6.out) (by simp)).trans B6.out); have L7 := Lib.hid ((hg7.block _ (blk_lt L6.out) (by simp)).trans L6.out); clear hg7 g6 hw6))
  clear cv5
  have HS : Hid (∀ W, w7.grownBy W none → W.cell? ⟨m, 1, none⟩ = some bv ∧ W.cell? ⟨W5.heap.size, 0, none⟩ = some (.string id) ∧ W.cell? ⟨W5.heap.size, 1, none⟩ = some (.string dom) ∧ W.cell? ⟨W5.heap.size, 2, none⟩ = some (.string X)) := Lib.hid (fun W hW => by
    have h1 := ((grown_trans G7.out hW).block _ (blk_lt HBb.out) (by simp)).trans HBb.out
    have h2 := (hW.block _ (blk_lt L7.out) (by simp)).trans L7.out
    exact ⟨cell_blk h1 1 rfl, cell_blk h2 0 rfl, cell_blk h2 1 rfl, cell_blk h2 2 rfl⟩)
  obtain ⟨s0, s1, s2, s3⟩ := HS.out w7 (grown_refl _ _)
  have hF : ∀ W, w7.grownBy W none → W.cell? ⟨m, 1, none⟩ = some bv ∧ W.frozen? ⟨m, 1, none⟩ = false := fun W hW => by
    have h1 := ((grown_trans G7.out hW).block _ (blk_lt HBb.out) (by simp)).trans HBb.out
    exact ⟨cell_blk h1 1 rfl, free_blk h1 1⟩
  have HF := Lib.hid hF
  have hA1 := (hF ((w7.alloc (.cells #[] 98)).drew) (grown_drewN (grown_alloc (grown_refl _ _) _) 1)).1
  have hA2 := (hF ((w7.alloc (.cells #[.string id, .string dom, .string X] 98)).drew) (grown_drewN (grown_alloc (grown_refl _ _) _) 1)).1
  have hA3 := (hF (((w7.alloc (.cells #[] 98)).alloc (.cells #[.string id, .string dom, .string X] 98)).drew) (grown_drewN (grown_alloc (grown_alloc (grown_refl _ _) _) _) 1)).1
  have hA4 := (hF (((w7.alloc (.cells #[.string id, .string dom, .string X] 98)).alloc (.cells #[] 98)).drew) (grown_drewN (grown_alloc (grown_alloc (grown_refl _ _) _) _) 1)).1
  have HFar : Hid (∀ W v, w7.grownBy W none → (W.setCell ⟨m, 1, none⟩ v).cell? ⟨W5.heap.size, 0, none⟩ = some (.string id) ∧ (W.setCell ⟨m, 1, none⟩ v).cell? ⟨W5.heap.size, 1, none⟩ = some (.string dom) ∧ (W.setCell ⟨m, 1, none⟩ v).cell? ⟨W5.heap.size, 2, none⟩ = some (.string X)) := Lib.hid (fun W v hW => by
    have hne : ∀ i, (⟨m, 1, none⟩ : Addr).block ≠ (⟨W5.heap.size, i, none⟩ : Addr).block := fun i => by
      have := blk_lt HBb.out
      have := G5.out.size
      show m ≠ W5.heap.size
      omega
    obtain ⟨_, h1, h2, h3⟩ := HS.out W hW
    exact ⟨by rw [World.cell?_setCell_far _ _ _ _ (hne 0)]; exact h1, by rw [World.cell?_setCell_far _ _ _ _ (hne 1)]; exact h2, by rw [World.cell?_setCell_far _ _ _ _ (hne 2)]; exact h3⟩)
  clear hF
  have HO : Hid (∀ (W X' : World) (v : Value) (g : Nat), w7.grownBy W none → W.ownsRow w7.heap.size 98 3 (.slice (some ⟨g, 0, none⟩) 0 0) 0 [] → W.grownBy X' (some g) → w7.grownBy X' none) := Lib.hid (fun W X' v g h1 h2 h3 => grown_own h1 h2 (Nat.le_refl _) h3)
  refine wp_region_held_drew (S := (fun w' => w'.cell? ⟨W5.heap.size, 0, none⟩ = some (.string id) ∧ w'.cell? ⟨W5.heap.size, 1, none⟩ = some (.string dom) ∧ w'.cell? ⟨W5.heap.size, 2, none⟩ = some (.string X))) (by kernel_rfl) (by first | (dsimp only; (first | exact (HS.out _ (grown_drewN (grown_refl _ _) 1)).2 | exact (HS.out _ (grown_drewN (grown_alloc (grown_refl _ _) _) 1)).2 | exact (HS.out _ (grown_drewN (grown_alloc (grown_alloc (grown_refl _ _) _) _) 1)).2 | exact (HS.out _ (grown_alloc (grown_drewN (grown_refl _ _) 1) _)).2 | exact (HS.out _ (grown_alloc (grown_alloc (grown_drewN (grown_refl _ _) 1) _) _)).2 | exact (HS.out _ K11.out).2 | exact (HS.out _ (grown_alloc K10.out _)).2 | exact (HS.out _ K10.out).2 | exact HFar.out _ _ K11.out)) | (first | exact (HS.out _ (grown_drewN (grown_refl _ _) 1)).2 | exact (HS.out _ (grown_drewN (grown_alloc (grown_refl _ _) _) 1)).2 | exact (HS.out _ (grown_drewN (grown_alloc (grown_alloc (grown_refl _ _) _) _) 1)).2 | exact (HS.out _ (grown_alloc (grown_drewN (grown_refl _ _) 1) _)).2 | exact (HS.out _ (grown_alloc (grown_alloc (grown_drewN (grown_refl _ _) 1) _) _)).2 | exact (HS.out _ K11.out).2 | exact (HS.out _ (grown_alloc K10.out _)).2 | exact (HS.out _ K10.out).2 | exact HFar.out _ _ K11.out)) (fun hHeld => ?_)
  refine wpAnyH_take (i := 0) (oi := ({ dst := _, op := _, type := _, pos := _, after := _, guard := _ } : Oper)) (v := ?_) rfl (by kernel_rfl) (by kernel_rfl) (by kernel_rfl) (fun _ _ _ h => h) (Or.inl ⟨by rfl, ?_⟩) (by assumption) ?_
  rotate_left
  focus (intro w hSw; (try dsimp only at hSw); go_simp; try with_reducible rfl)
  try simp only [Act.put, List.setIfInBounds_toArray, List.set_cons_zero, List.set_cons_succ]
  refine wpAnyH_take (i := 2) (oi := ({ dst := _, op := _, type := _, pos := _, after := _, guard := _ } : Oper)) (v := ?_) rfl (by kernel_rfl) (by kernel_rfl) (by kernel_rfl) (fun _ _ _ h => h) (Or.inl ⟨by rfl, ?_⟩) (by assumption) ?_
  rotate_left
  focus (intro w hSw; (try dsimp only at hSw); go_simp; try with_reducible rfl)
  try simp only [Act.put, List.setIfInBounds_toArray, List.set_cons_zero, List.set_cons_succ]
  refine wpAnyH_take (i := 3) (oi := ({ dst := _, op := _, type := _, pos := _, after := _, guard := _ } : Oper)) (v := ?_) rfl (by kernel_rfl) (by kernel_rfl) (by kernel_rfl) (fun _ _ _ h => h) (Or.inl ⟨by rfl, ?_⟩) (by assumption) ?_
  rotate_left
  focus (intro w hSw; (try dsimp only at hSw); go_simp; try with_reducible rfl)
  try simp only [Act.put, List.setIfInBounds_toArray, List.set_cons_zero, List.set_cons_succ]
  refine wpAnyH_take (i := 4) (oi := ({ dst := _, op := _, type := _, pos := _, after := _, guard := _ } : Oper)) (v := ?_) rfl (by kernel_rfl) (by kernel_rfl) (by kernel_rfl) (fun _ _ _ h => h) (Or.inl ⟨by rfl, ?_⟩) (by assumption) ?_
  rotate_left
  focus (intro w hSw; (try dsimp only at hSw); go_simp; try with_reducible rfl)
  try simp only [Act.put, List.setIfInBounds_toArray, List.set_cons_zero, List.set_cons_succ]
  refine wpAnyH_take (i := 7) (oi := ({ dst := _, op := _, type := _, pos := _, after := _, guard := _ } : Oper)) (v := ?_) rfl (by kernel_rfl) (by kernel_rfl) (by kernel_rfl) (fun _ _ _ h => h) (Or.inl ⟨by rfl, ?_⟩) (by assumption) ?_
  rotate_left
  focus (intro w hSw; (try dsimp only at hSw); go_simp; try with_reducible rfl)
  try simp only [Act.put, List.setIfInBounds_toArray, List.set_cons_zero, List.set_cons_succ]
  repeat' first
    | (refine wpAnyH_done (by decide +kernel) ?_ _)
    | (refine wpAnyH_ready (rs := [1, 5, 8]) (by decide +kernel) (by simp) ?_)
    | (refine wpAnyH_ready (rs := [5, 8]) (by decide +kernel) (by simp) ?_)
    | (refine wpAnyH_ready (rs := [1, 5]) (by decide +kernel) (by simp) ?_)
    | (refine wpAnyH_ready (rs := [6, 8]) (by decide +kernel) (by simp) ?_)
    | (refine wpAnyH_ready (rs := [1, 8]) (by decide +kernel) (by simp) ?_)
    | (refine wpAnyH_ready (rs := [6]) (by decide +kernel) (by simp) ?_)
    | (refine wpAnyH_ready (rs := [12]) (by decide +kernel) (by simp) ?_)
    | (refine wpAnyH_ready (rs := [5]) (by decide +kernel) (by simp) ?_)
    | (refine wpAnyH_ready (rs := [8]) (by decide +kernel) (by simp) ?_)
    | (refine wpAnyH_ready (rs := [1]) (by decide +kernel) (by simp) ?_)
    | (refine wpAnyH_ready (rs := [9]) (by decide +kernel) (by simp) ?_)
    | exact AllReadyH.nil
    | (refine AllReadyH.cons (o := ({ dst := _, op := _, type := _, pos := _, after := _, guard := _ } : Oper)) rfl (fun Kq hKq => ?_) ?_; (focus ((first | ((first | (refine step_first (w0 := w7) (by rfl) (.tmp 44) (.tmp 48) 41 (by rfl) 98 _ 3 48 Tryd.underlying41 HLI.out rfl (by decide) (by decide) _ (by rfl) (by first | exact grown_drewN (grown_refl _ _) 1 | exact grown_alloc (grown_drewN (grown_refl _ _) 1) _ | exact grown_alloc (grown_alloc (grown_drewN (grown_refl _ _) 1) _) _ | exact grown_drewN (grown_alloc (grown_refl _ _) _) 1 | exact grown_drewN (grown_alloc (grown_alloc (grown_refl _ _) _) _) 1) (by first | exact own_emptyN (alloc_at _ _) (Nat.le_refl _) | exact own_emptyN (alloc2_old _ _ _) (Nat.le_refl _) | exact own_emptyN (alloc2_new _ _ _) (Nat.le_succ _)) bv L XS (by rfl) (HR.out _ (grown_trans G7.out (by first | exact grown_drewN (grown_refl _ _) 1 | exact grown_alloc (grown_drewN (grown_refl _ _) 1) _ | exact grown_alloc (grown_alloc (grown_drewN (grown_refl _ _) 1) _) _ | exact grown_drewN (grown_alloc (grown_refl _ _) _) 1 | exact grown_drewN (grown_alloc (grown_alloc (grown_refl _ _) _) _) 1))) HR0.out HR1.out (by have := HLn.out; omega) ?_; intro v10 w10 ho10 hg10 hk10; have O10 := Lib.hid ho10; have K10 := Lib.hid hg10; have Q10 := Lib.hid hk10; clear ho10 hg10 hk10) | (refine step_second (w0 := w7) (by rfl) (.tmp 49) (.tmp 51) 41 (by rfl) 98 _ 3 48 Tryd.underlying41 HLI.out rfl (by decide) (by decide) v10 L XS (by rfl) (grown_alloc K10.out _) (O10.out.kept (World.grownBy_alloc _ _ _) (Classical.em _)) _ 1 [.string id, .string dom, .string X] (by rfl) (row_blk (alloc_at _ _)) (Whole0.some _ _ _) (by intro u hu; simp at hu; rcases hu with rfl | rfl | rfl <;> rfl) (by have := HLn.out; omega) ?_; intro v11 w11 ho11 hg11; obtain ⟨a11, g11, c11, rfl, -⟩ := own_formN ho11; have O11 := Lib.hid ho11; have K11 := Lib.hid hg11; have c11x := (HF.out _ hg11).1; have f11x := (HF.out _ hg11).2; clear ho11 hg11) | (refine step_second (w0 := w7) (by rfl) (.tmp 49) (.tmp 51) 41 (by rfl) 98 _ 3 48 Tryd.underlying41 HLI.out rfl (by decide) (by decide) v10 L XS (by rfl) K10.out O10.out _ 1 [.string id, .string dom, .string X] (by rfl) (row_blk (by first | exact Q10.out _ _ (by show w7.heap.size ≠ w7.heap.size + 1; omega) (alloc2_old _ _ _) | exact Q10.out _ _ (by show w7.heap.size + 1 ≠ w7.heap.size; omega) (alloc2_new _ _ _))) (Whole0.some _ _ _) (by intro u hu; simp at hu; rcases hu with rfl | rfl | rfl <;> rfl) (by have := HLn.out; omega) ?_; intro v11 w11 ho11 hg11; obtain ⟨a11, g11, c11, rfl, -⟩ := own_formN ho11; have O11 := Lib.hid ho11; have K11 := Lib.hid hg11; have c11x := (HF.out _ hg11).1; have f11x := (HF.out _ hg11).2; clear ho11 hg11))) | go_simp); (refine hKq.out _ _ (by first | (dsimp only; (first | exact (HS.out _ (grown_drewN (grown_refl _ _) 1)).2 | exact (HS.out _ (grown_drewN (grown_alloc (grown_refl _ _) _) 1)).2 | exact (HS.out _ (grown_drewN (grown_alloc (grown_alloc (grown_refl _ _) _) _) 1)).2 | exact (HS.out _ (grown_alloc (grown_drewN (grown_refl _ _) 1) _)).2 | exact (HS.out _ (grown_alloc (grown_alloc (grown_drewN (grown_refl _ _) 1) _) _)).2 | exact (HS.out _ K11.out).2 | exact (HS.out _ (grown_alloc K10.out _)).2 | exact (HS.out _ K10.out).2 | exact HFar.out _ _ K11.out)) | (first | exact (HS.out _ (grown_drewN (grown_refl _ _) 1)).2 | exact (HS.out _ (grown_drewN (grown_alloc (grown_refl _ _) _) 1)).2 | exact (HS.out _ (grown_drewN (grown_alloc (grown_alloc (grown_refl _ _) _) _) 1)).2 | exact (HS.out _ (grown_alloc (grown_drewN (grown_refl _ _) 1) _)).2 | exact (HS.out _ (grown_alloc (grown_alloc (grown_drewN (grown_refl _ _) 1) _) _)).2 | exact (HS.out _ K11.out).2 | exact (HS.out _ (grown_alloc K10.out _)).2 | exact (HS.out _ K10.out).2 | exact HFar.out _ _ K11.out)) (fun hHeld => ?_)); (clear hKq Kq); (try simp only [Act.put, List.setIfInBounds_toArray, List.set_cons_zero, List.set_cons_succ]))))
    | (refine wpAnyH_take (i := 10) (oi := ({ dst := _, op := _, type := _, pos := _, after := _, guard := _ } : Oper)) (v := ?_) rfl (by kernel_rfl) (by kernel_rfl) (by decide +kernel) (fun _ _ _ h => h) (Or.inl ⟨by rfl, ?_⟩) (by assumption) ?_; rotate_left; focus (intro w hSw; (try dsimp only at hSw); go_simp; try with_reducible rfl); try simp only [Act.put, List.setIfInBounds_toArray, List.set_cons_zero, List.set_cons_succ])
    | (refine wpAnyH_take (i := 11) (oi := ({ dst := _, op := _, type := _, pos := _, after := _, guard := _ } : Oper)) (v := ?_) rfl (by kernel_rfl) (by kernel_rfl) (by decide +kernel) (fun _ _ _ h => h) (Or.inl ⟨by rfl, ?_⟩) (by assumption) ?_; rotate_left; focus (intro w hSw; (try dsimp only at hSw); go_simp; try with_reducible rfl); try simp only [Act.put, List.setIfInBounds_toArray, List.set_cons_zero, List.set_cons_succ])
  all_goals
    have hmw : m < w7.heap.size := Nat.lt_of_lt_of_le (blk_lt HBb.out) G7.out.size
    have hb11 := (K11.out.block _ hmw (by simp)).trans ((G7.out.block _ (blk_lt HBb.out) (by simp)).trans HBb.out)
    have hd11 := (K11.out.block _ (blk_lt B7.out) (by simp)).trans B7.out
    have hne : w4.heap.size ≠ m := fun e => by
      rw [e] at hd11
      rw [hb11] at hd11
      simp at hd11
    obtain ⟨w12, hw12⟩ : ∃ w12, w12 = w11.setCell ⟨m, 1, none⟩ (.slice a11 (L + 1) c11) := ⟨_, rfl⟩
    have D12 : Hid (w12.heap[w4.heap.size]? = some (.cells D 64 (0, 0))) := Lib.hid (by rw [hw12]; exact (Below.heap_setCell _ _ _ _ hne).trans hd11)
    rw [← hw12]
    have HW12 := Lib.hid hw12
    clear hw12 hne hd11 hb11 hmw s0 s1 s2 s3 hA1 hA2 hA3 hA4 c11x f11x
    go_wp2_with (refine wpList_appB (by rfl) (.tmp 55) (.tmp 56) 22 (by rfl) w12.heap.size 5 _ 1 Tryd.underlying22 HU.out rfl (by decide) _ 0 [] (by rfl) (ownsRow_lit (cs := #[]) (alloc_at w12 _) (Nat.le_refl _) (by simp)) _ K (by rfl) (HBy.out _ _ (alloc_keep D12.out)) (Whole0.some _ _ _) (by rw [HKl.out]; decide) (by rw [alloc_size]; omega) ?_; intro v13 w13 ho13 hg13; rw [HKl.out, Nat.zero_add, List.nil_append] at ho13; obtain ⟨a13, g13, c13, rfl, -, -, -, -⟩ := ownsRow_form ho13; have O13 := Lib.hid ho13; have G13 : Hid (w12.grownBy w13 none) := Lib.hid (grown_own (World.grownBy_alloc _ _ _) (ownsRow_lit (cs := #[]) (alloc_at w12 _) (Nat.le_refl _) (by simp)) (Nat.le_refl _) hg13); clear ho13 hg13)
    go_returns
    exact ⟨_, _, w11, _, rfl, Bytes.own O13.out HK8.out, whole_own O13.out, (fun k hk => by have h1 := (own_at O13.out hk).1; have h2 := (grown_trans G7.out K11.out).size; have h3 : w12.heap.size = w11.heap.size := (by rw [HW12.out, setCell_size]); omega), grown_trans G7.out K11.out, own_low O11.out G7.out.size, by rw [← HW12.out]; exact G13.out⟩
end Go.Proofs.YtgdnndapmcjoeaaDoor
