import Derived.Test.YtgdnndapmcjoeaaDoorKd03
import Derived.Test.YtgdnndapmcjoeaaDoorKd31
import Derived.Test.YtgdnndapmcjoeaaDoorKd40
namespace Go
theorem wpList_val {P : Program} {ops : Array Oper} {rest : List Oper} {o : Oper} {a : Act} {w : World} {Q : Exit → Act → World → Prop} (hgd : o.guard = none) {v : Value} {w' : World} (h : (execOp a.eval o).run P w = .ok (.value v) w') (k : wpList P ops Q rest (a.put o.dst v) w') : wpList P ops Q (o :: rest) a w :=
  wpList_plain hgd fun K hK => by
    unfold Oper.wp
    rw [h]
    exact hK _ _ k
end Go
namespace Go.Proofs.YtgdnndapmcjoeaaDoor
open Go.RowKit Go.Maps
set_option linter.unusedVariables false
def l0 : ByteArray × ByteArray × ByteArray := (⟨#[]⟩, ⟨#[]⟩, ⟨#[]⟩)
/-- Lines, one behind the other. -/
def LinesV (w : World) (v : Value) (bk : List (ByteArray × ByteArray × ByteArray)) : Prop :=
  ∃ (a : Option Addr) (g o c : Nat), v = .slice a bk.length c ∧ (0 < bk.length → a = some ⟨g, o, none⟩ ∧ g < w.heap.size) ∧ ∀ j, j < bk.length → w.cell? ⟨g, o + j * 3, none⟩ = some (.string (bk.getD j l0).1) ∧ w.cell? ⟨g, o + j * 3 + 1, none⟩ = some (.string (bk.getD j l0).2.1) ∧ w.cell? ⟨g, o + j * 3 + 2, none⟩ = some (.string (bk.getD j l0).2.2)
theorem LinesV.grown {w w' : World} {v : Value} {bk : List (ByteArray × ByteArray × ByteArray)} (h : LinesV w v bk) (hg : w.grownBy w' none) : LinesV w' v bk := by
  obtain ⟨a, g, o, c, h1, h2, h3⟩ := h
  refine ⟨a, g, o, c, h1, fun h => ⟨(h2 h).1, Nat.lt_of_lt_of_le (h2 h).2 hg.size⟩, fun j hj => ?_⟩
  obtain ⟨e1, e2, e3⟩ := h3 j hj
  have e : ∀ o, w'.cell? ⟨g, o, none⟩ = w.cell? ⟨g, o, none⟩ := fun o => World.cell?_of_block (hg.block g (h2 (by omega)).2 (by simp))
  exact ⟨by rw [e]; exact e1, by rw [e]; exact e2, by rw [e]; exact e3⟩
theorem eqLn (x y : Operand) (a1 a2 b1 b2 c1 c2 : ByteArray) (w : World) : (do eqGuard .eql 98 x y (.agg #[.string a1, .string b1, .string c1]) (.agg #[.string a2, .string b2, .string c2]); binOp .eql 98 (.agg #[.string a1, .string b1, .string c1]) (.agg #[.string a2, .string b2, .string c2]) : Sem Value).run Tryd.prog w = .ok (.bool (decide ((a1, b1, c1) = (a2, b2, c2)))) w := by
  have h : ∀ {s t : ByteArray}, s.toList = t.toList ↔ s = t := fun {s t} => ⟨fun h => kStr (by
    have := str_beq s t
    rw [h, beq_self_eq_true] at this
    exact of_decide_eq_true this.symm), fun h => by rw [h]⟩
  simp [go_sem]
  by_cases e1 : a1 = a2 <;> by_cases e2 : b1 = b2 <;> by_cases e3 : c1 = c2 <;> simp [h, e1, e2, e3]
theorem eqLn_val {o : Oper} {a : Act} {w : World} {r : TypeId} {x y : Operand} {a1 a2 b1 b2 c1 c2 : ByteArray} (q : Bool) (hq : decide ((a1, b1, c1) = (a2, b2, c2)) = q) (ho : o.op = .binOp .eql 98 x y r) (hx : a.eval x = .agg #[.string a1, .string b1, .string c1]) (hy : a.eval y = .agg #[.string a2, .string b2, .string c2]) : (execOp a.eval o).run Tryd.prog w = .ok (.value (.bool q)) w := by
  have h := eqLn x y a1 a2 b1 b2 c1 c2 w
  rw [hq] at h
  simp only [execOp, ho, hx, hy]
  rw [Sem.run_bind, h]
  simp [Result.andThen, Sem.run_pure]
set_option maxRecDepth 100000 in
set_option maxHeartbeats 1000000 in
theorem inBook_any (w : World) (b : Nat) (kv bv : Value) (bk : List (ByteArray × ByteArray × ByteArray)) (x y z : ByteArray) (hb : w.heap[b]? = some (.cells #[kv, bv] 43 (0, 0))) (hK : LinesV w bv bk) (hl : bk.length ≤ 9223372036854775807) :
    Calls Tryd.prog 41 #[.pointer (some ⟨b, 0, none⟩), .agg #[.string x, .string y, .string z]] w fun e w' => e = .returned (.bool (decide ((x, y, z) ∈ bk))) ∧ w.grownBy w' none := by
  obtain ⟨w0, hw0⟩ : ∃ w0, w0 = w.alloc (.cells #[.string x, .string y, .string z] 98) := ⟨_, rfl⟩
  have HW0 := Lib.hid hw0
  have hg0 : w.grownBy w0 none := by rw [hw0]; exact World.grownBy_alloc _ _ _
  have HG0 := Lib.hid hg0
  have HBx : Hid (w0.heap[w.heap.size]? = some (.cells #[.string x, .string y, .string z] 98 (0, 0))) := Lib.hid (by rw [hw0]; exact alloc_at _ _)
  have hb0 : w0.heap[b]? = some (.cells #[kv, bv] 43 (0, 0)) := (hg0.block b (blk_lt hb) (by simp)).trans hb
  have c1 := cell_blk hb0 1 rfl
  obtain ⟨a, g, o, c, rfl, h2, h3⟩ := hK.grown hg0
  obtain ⟨n, hn⟩ : ∃ n, n = bk.length := ⟨_, rfl⟩
  rw [← hn] at hl c1 h2
  have HN := Lib.hid hn
  have H2 := Lib.hid h2
  have H3 := Lib.hid h3
  have c1' : (w.alloc (.cells #[.string x, .string y, .string z] 98)).cell? ⟨b, 1, none⟩ = some (.slice a n c) := by rw [← hw0]; exact c1
  obtain ⟨R, hR⟩ : ∃ R, R = decide ((x, y, z) ∈ bk) := ⟨_, rfl⟩
  have HR := Lib.hid hR
  rw [← hR]
  clear hb hn h2 h3 hR hw0 hg0 hb0 hK c1
  go_enter Tryd.func41, Tryd.ntmps41
  go_wp2
  rw [← HW0.out]
  go_loopw [12] (fun i wr => ∃ j : Nat, j ≤ n ∧ i = .int .i64 j ∧ w0.grownBy wr none ∧ Hid (∀ q, q < j → bk.getD q l0 ≠ (x, y, z))) (fun i _ => n - (intOf i).toNat)
  case atStart => exact ⟨0, by omega, rfl, grown_refl _ _, Lib.hid (fun q hq => absurd hq (Nat.not_lt_zero _))⟩
  case round =>
    clear c1'
    obtain ⟨j, hj, rfl, hg, hq⟩ := hrel
    have HG := Lib.hid hg
    have b1 := (hg.block _ (blk_lt HBx.out) (by simp)).trans HBx.out
    by_cases hjn : j < n
    · obtain ⟨rfl, hgl⟩ := H2.out (by omega)
      obtain ⟨e0, e1, e2⟩ := H3.out j (by rw [← HN.out]; exact hjn)
      have eg : ∀ o, wr.cell? ⟨g, o, none⟩ = w0.cell? ⟨g, o, none⟩ := fun o => World.cell?_of_block (hg.block g hgl (by simp))
      rw [← eg] at e0 e1 e2
      obtain ⟨L, hL⟩ : ∃ L, L = bk.getD j l0 := ⟨_, rfl⟩
      rw [← hL] at e0 e1 e2
      have HL := Lib.hid hL
      obtain ⟨l1, l2, l3⟩ := L
      have f0 : wr.cell? ⟨w.heap.size, 0, none⟩ = some (.string x) := cell_blk b1 0 rfl
      have f1 : wr.cell? ⟨w.heap.size, 1, none⟩ = some (.string y) := cell_blk b1 1 rfl
      have f2 : wr.cell? ⟨w.heap.size, 2, none⟩ = some (.string z) := cell_blk b1 2 rfl
      dsimp only at e0 e1 e2
      have hgw : g < wr.heap.size := Nat.lt_of_lt_of_le hgl hg.size
      have hbw : w.heap.size < wr.heap.size := blk_lt b1
      clear eg hL hg b1
      cases hq1 : decide ((l1, l2, l3) = (x, y, z)) with
      | true =>
        have HQ := Lib.hid hq1
        clear hq1
        go_wp2_with (refine wpList_val (by rfl) (eqLn_val (a1 := l1) (b1 := l2) (c1 := l3) (a2 := x) (b2 := y) (c2 := z) true HQ.out (by rfl) (by rfl) (by rfl)) ?_)
        go_ret
        refine ⟨?_, grown_trans HG0.out (grown_trans HG.out (World.grownBy_alloc _ _ _))⟩
        have hm : (x, y, z) ∈ bk := by
          rw [← of_decide_eq_true HQ.out, HL.out, List.getD_eq_getElem?_getD, List.getElem?_eq_getElem (by rw [← HN.out]; exact hjn)]
          exact List.getElem_mem _
        rw [HR.out, decide_eq_true hm]
        rfl
      | false =>
        have HQ := Lib.hid hq1
        clear hq1
        go_wp2_with (refine wpList_val (by rfl) (eqLn_val (a1 := l1) (b1 := l2) (c1 := l3) (a2 := x) (b2 := y) (c2 := z) false HQ.out (by rfl) (by rfl) (by rfl)) ?_)
        go_roundw
        case rel => exact ⟨j + 1, by omega, by go_num, grown_trans HG.out (World.grownBy_alloc _ _ _), Lib.hid (fun q hq' => by
          by_cases e : q = j
          · subst e; rw [← HL.out]; exact of_decide_eq_false HQ.out
          · exact hq.out q (by omega))⟩
        case measure => simp [intOf]; omega
    · obtain rfl : j = n := by omega
      clear hjn b1
      go_wp2
      go_ret
      refine ⟨?_, grown_trans HG0.out HG.out⟩
      have hm : ¬ (x, y, z) ∈ bk := fun hm => by
        obtain ⟨i, hi, he⟩ := List.getElem_of_mem hm
        refine hq.out i (by rw [HN.out]; exact hi) ?_
        rw [List.getD_eq_getElem?_getD, List.getElem?_eq_getElem hi]
        exact he
      rw [HR.out, decide_eq_false hm]
      rfl
end Go.Proofs.YtgdnndapmcjoeaaDoor
namespace Go.Proofs.YtgdnndapmcjoeaaDoor
open Go.RowKit Go.Maps
set_option linter.unusedVariables false
theorem own_emptyN {w : World} {base g : Nat} {e : TypeId} {sz : Nat} (h : w.heap[g]? = some (.cells #[] e (0, 0))) (hb : base ≤ g) : w.ownsRow base e sz (.slice (some ⟨g, 0, none⟩) 0 0) 0 [] :=
  ⟨by simp, .inr ⟨g, 0, #[], rfl, hb, h, Nat.le_refl _, Nat.zero_le _, by simp, by simp⟩⟩
theorem kKeyInfo : (Tryd.prog.info? 93).map (fun i => (i.zero, i.size, i.bytes)) = some (some (.agg #[.string ⟨#[]⟩, .slice none 0 0]), 2, 40) := by kernel_rfl
set_option maxRecDepth 100000 in
set_option maxHeartbeats 1000000 in
theorem refAdd_empty (w : World) (m : Nat) (va : Option Addr) (vc : Nat) (k : List Nat) (hB : Bytes w (.slice va 32 vc) k) (hB0 : Whole0 (.slice va 32 vc)) (hk : k.length = 32) (hb : w.heap[m]? = some (.cells #[.slice none 0 0, .slice none 0 0] 43 (0, 0))) :
    Calls Tryd.prog 23 #[.pointer (some ⟨m, 0, none⟩), .slice va 32 vc] w fun e w' => e = .returned (.string (idText k)) ∧ w.grownBy w' (some m) ∧ ∃ kv, w'.heap[m]? = some (.cells #[kv, .slice none 0 0] 43 (0, 0)) ∧ ∀ (O : Nat → Prop) (W' : World), (∀ q, O q → q < w.heap.size) → Upto O w' W' → KeysV W' kv [(idText k, k)] := by
  have HB := Lib.hid hB
  have HB0 := Lib.hid hB0
  have HK := Lib.hid hk
  have HBb := Lib.hid hb
  have HID := Lib.hid (refID_any (.slice va 32 vc) k w hB hB0 (by omega))
  obtain ⟨I, hI⟩ : ∃ I, I = idText k := ⟨_, rfl⟩
  have HII := Lib.hid hI
  rw [← hI] at HID ⊢
  have HFd : Hid (∀ W, w.grownBy W none → Calls Tryd.prog 37 #[.pointer (some ⟨m, 0, none⟩), .string I] W fun e w' => e = .returned (.tuple #[.slice none 0 0, .bool false]) ∧ W.grownBy w' none) := Lib.hid (fun W hW => (find_any W m (.slice none 0 0) (.slice none 0 0) [] I ((hW.block _ (blk_lt hb) (by simp)).trans hb) ⟨none, 0, 0, 0, rfl, fun h => absurd h (by simp), fun j hj => absurd hj (by simp)⟩ (by simp)).mono (fun e w' h => ⟨h.2, h.1⟩))
  have HU := Lib.hid uInfo
  have HKI := Lib.hid kKeyInfo
  clear hB hB0 hk hb hI
  go_enter Tryd.func23, Tryd.ntmps23
  go_wp2_with (first
    | (go_at_call 36; refine HID.out.mono ?_; rintro e w1 ⟨rfl, hg1⟩; have G1 := Lib.hid hg1; clear hg1)
    | (go_at_call 37; refine (HFd.out w1 G1.out).mono ?_; rintro e w2 ⟨rfl, hg2⟩; have G2 := Lib.hid (grown_trans G1.out hg2); have c2 : w2.cell? ⟨m, 0, none⟩ = some (.slice none 0 0) := cell_blk ((G2.out.block _ (blk_lt HBb.out) (by simp)).trans HBb.out) 0 rfl; have f2 : w2.frozen? ⟨m, 0, none⟩ = false := free_blk ((G2.out.block _ (blk_lt HBb.out) (by simp)).trans HBb.out) 0; have mlt : m < w2.heap.size := Nat.lt_of_lt_of_le (blk_lt HBb.out) G2.out.size; have Mlt := Lib.hid mlt; clear hg2)
    | (obtain ⟨w3, hw3⟩ : ∃ w3, w3 = (w2.alloc (.cells #[] 93)).alloc (.cells #[] 5) := ⟨_, rfl⟩
       rw [← hw3]
       have g3 : w2.grownBy w3 none := (by rw [hw3]; exact grown_alloc (World.grownBy_alloc _ _ _) _)
       have G3 := Lib.hid g3
       have o3 : w3.ownsRow w2.heap.size 93 2 (.slice (some ⟨w2.heap.size, 0, none⟩) 0 0) 0 [] := own_emptyN (by rw [hw3]; exact alloc2_old _ _ _) (Nat.le_refl _)
       have O3 := Lib.hid o3
       have l3 : w3.ownsRow w2.heap.size 5 1 (.slice (some ⟨w2.heap.size + 1, 0, none⟩) 0 0) 0 [] := ownsRow_lit (cs := #[]) (by rw [hw3]; exact alloc2_new _ _ _) (by omega) (by simp)
       have L3 := Lib.hid l3
       clear hw3 g3 o3 l3
       refine wpList_appB (by rfl) (.tmp 26) (.tmp 27) 22 (by rfl) w2.heap.size 5 _ 1 Tryd.underlying22 HU.out rfl (by decide) _ 0 [] (by rfl) L3.out _ k (by rfl) (HB.out.grown (grown_trans G2.out G3.out)) HB0.out (by rw [HK.out]; decide) G3.out.size ?_
       intro v7 w7 ho7 hg7
       rw [HK.out, Nat.zero_add, List.nil_append] at ho7
       obtain ⟨a7, g7, c7, rfl, -, -, hp7, -⟩ := ownsRow_form ho7
       obtain ⟨rfl, -⟩ := hp7 (by decide)
       clear hp7
       have O7 := Lib.hid ho7
       have G7 := Lib.hid hg7
       have K7 : Hid (w7.ownsRow w2.heap.size 93 2 (.slice (some ⟨w2.heap.size, 0, none⟩) 0 0) 0 []) := Lib.hid (O3.out.kept hg7 (.inr (fun e => rows_unlike O3.out L3.out (by decide) rfl e.symm)))
       have N7 : Hid (w2.grownBy w7 none) := Lib.hid (grown_own G3.out L3.out (Nat.le_refl _) hg7)
       clear ho7 hg7)
    | (obtain ⟨w8, hw8⟩ : ∃ w8, w8 = w7.alloc (.cells #[.string I, .slice (some ⟨g7, 0, none⟩) 32 c7] 93) := ⟨_, rfl⟩
       rw [← hw8]
       have g8 : w7.grownBy w8 none := (by rw [hw8]; exact World.grownBy_alloc _ _ _)
       have b8 : w8.heap[w7.heap.size]? = some (.cells #[.string I, .slice (some ⟨g7, 0, none⟩) 32 c7] 93 (0, 0)) := (by rw [hw8]; exact alloc_at _ _)
       have G8 := Lib.hid g8
       clear hw8
       refine wpList_appN2 (by rfl) (.tmp 24) (.tmp 30) 40 (by rfl) w2.heap.size 93 _ 2 40 Tryd.underlying40 HKI.out rfl (by decide) (by decide) _ 0 [] (by rfl) (K7.out.kept g8 (Classical.em _)) ⟨w7.heap.size, 0, none⟩ 1 1 [.string I, .slice (some ⟨g7, 0, none⟩) 32 c7] (by rfl) rfl (by intro j u hj; rw [addr_addO, Nat.zero_add]; exact cell_blk b8 j (by simpa using hj)) (by intro u hu; simp at hu; rcases hu with rfl | rfl <;> rfl) (by decide) (Nat.le_trans N7.out.size g8.size) ?_
       intro v9 w9 ho9 hg9 _
       obtain ⟨a9, g9, c9, rfl, -, -, -, -, hp9⟩ := own_formN ho9
       obtain ⟨rfl, hlt9, hcl9, -⟩ := hp9 (by decide)
       have HC9 := Lib.hid hcl9
       have HL9 := Lib.hid hlt9
       clear hp9 hcl9 hlt9
       have O9 := Lib.hid ho9
       have G9 := Lib.hid hg9
       have Y9 : Hid (w9.ownsRow w2.heap.size 5 1 (.slice (some ⟨g7, 0, none⟩) 32 c7) 32 (cellsL k)) := Lib.hid ((O7.out.kept g8 (Classical.em _)).kept hg9 (.inr (fun e => by
         have ho7 := O7.out.kept g8 (Classical.em _)
         exact rows_unlike ho7 (K7.out.kept g8 (Classical.em _)) (by decide) e rfl)))
       have N9 : Hid (w2.grownBy w9 none) := Lib.hid (grown_own (grown_trans N7.out g8) (K7.out.kept g8 (Classical.em _)) (Nat.le_refl _) hg9)
       clear ho9 hg9 g8 b8)
    | (refine wpList_store_c (by rfl) 40 (.tmp 33) (.tmp 31) (by rfl) m 0 _ (by rfl) (by rfl) (there_blk ((N9.out.block _ Mlt.out (by simp)).trans ((G2.out.block _ (blk_lt HBb.out) (by simp)).trans HBb.out)) 0 1 (by decide)) (by kernel_rfl) (by rfl) ?_))
  go_ret
  have hb9 := (N9.out.block _ Mlt.out (by simp)).trans ((G2.out.block _ (blk_lt HBb.out) (by simp)).trans HBb.out)
  have hgr := grown_set (w := w) (row := some m) (grown_any (grown_trans G2.out N9.out)) (p := ⟨m, 0, none⟩) (.inr rfl) (.slice (some ⟨g9, 0, none⟩) 1 c9)
  refine ⟨rfl, hgr, _, setCell_heap hb9 _, ?_⟩
  have hm9 : g9 ≠ m := fun e => by
    have h0 := HC9.out 0 _ rfl
    rw [e] at h0
    have h1 := cell_blk hb9 0 rfl
    rw [h1] at h0
    exact absurd (Option.some.inj h0) (by simp)
  intro O W' hO hU
  have hb9' : w.heap.size ≤ g9 := by
    obtain ⟨_, h | ⟨g, cap, cur, h1, h2, _⟩⟩ := O9.out
    · cases h.1
    · have e1 : g = g9 := by injection h1 with h1; injection h1 with h1; injection h1 with h1; exact h1.symm
      have := G2.out.size
      omega
  have hb7' : w.heap.size ≤ g7 ∧ g7 < w9.heap.size ∧ g7 ≠ m := by
    obtain ⟨_, h | ⟨g, cap, cur, h1, h2, h3, _⟩⟩ := Y9.out
    · cases h.1
    · have e1 : g = g7 := by injection h1 with h1; injection h1 with h1; injection h1 with h1; exact h1.symm
      have := G2.out.size
      subst e1
      refine ⟨by omega, blk_lt h3, fun e => ?_⟩
      rw [e, hb9] at h3
      simp at h3
  have keep : ∀ q, w.heap.size ≤ q → q < w9.heap.size → q ≠ m → W'.heap[q]? = w9.heap[q]? := fun q h1 h2 h3 => (hU.block q (by rw [setCell_size]; exact h2) (fun h => by have := hO q h; omega)).trans (Below.heap_setCell _ _ _ _ h3)
  have k9 := keep g9 hb9' HL9.out hm9
  have k7 := keep g7 hb7'.1 hb7'.2.1 hb7'.2.2
  refine ⟨some ⟨g9, 0, none⟩, g9, 0, c9, rfl, fun _ => ⟨rfl, ?_⟩, fun j hj => ?_⟩
  · have := hU.size
    rw [setCell_size] at this
    exact Nat.lt_of_lt_of_le HL9.out this
  · obtain rfl : j = 0 := by simpa using hj
    refine ⟨.slice (some ⟨g7, 0, none⟩) 32 c7, by rw [World.cell?_of_block k9]; exact HC9.out 0 _ rfl, by rw [World.cell?_of_block k9]; exact HC9.out 1 _ rfl, ?_, Whole0.some _ _ _⟩
    have hy := Bytes.own Y9.out HB.out.lt
    have hlt := HB.out.lt
    obtain ⟨h1, a', sb, so, cc, hv, hle, hpos, hcell⟩ := hy
    obtain ⟨ha, hsb⟩ := hpos (by rw [HK.out]; decide)
    have e1 : g7 = sb := by injection hv with hv1; rw [ha] at hv1; injection hv1 with hv1; injection hv1
    subst e1
    refine ⟨h1, a', g7, so, cc, hv, hle, fun _ => ⟨ha, ?_⟩, fun j hj => by rw [World.cell?_of_block k7]; exact hcell j hj⟩
    have := hU.size
    rw [setCell_size] at this
    exact Nat.lt_of_lt_of_le hsb this
end Go.Proofs.YtgdnndapmcjoeaaDoor
