/- The walk of the law ShaHash, the list's loop. -/
import Derived.Test.YtckdkcfhkakcfaaDoorSv1
namespace Go.Proofs.YtckdkcfhkakcfaaDoor
open Go.RowKit

def zeroStep : Array Value := #[.bool false, .slice none 0 0]

set_option maxRecDepth 100000 in
set_option maxHeartbeats 4000000 in
theorem shaHash_any (steps : List (Bool × List Nat)) (a : Option Addr) (sb so n c : Nat) (hn : steps.length = n) (w : World) (ha : 0 < n → a = some ⟨sb, so, none⟩ ∧ sb < w.heap.size) (hP : StepsAt w sb so steps)
    (hnn : n ≤ 9223372036854775807) (hL : Laid w) :
    Calls Tryd.prog 4 #[.slice a n c] w fun e w' => e = .returned (.bool true) ∧ w.grownBy w' none := by
  have hAl := alive_any w hL
  have HAl := Lib.hid hAl
  have HL := Lib.hid hL
  have HP := Lib.hid hP
  have Ha := Lib.hid ha
  have Hn := Lib.hid hn
  have hzS : ∀ w, (zeroValue 37).run Tryd.prog w = .ok (.agg zeroStep) w := fun _ => by kernel_rfl
  have HIS : Hid ((Tryd.prog.info? 37).map (·.size) = some 2) := Lib.hid (by kernel_rfl)
  clear hL hP ha hn hAl
  by_cases hbig : 30 < n
  · have d1 : (30 : Int) < (n : Int) := by omega
    go_enter Tryd.func4, Tryd.ntmps4
    go_wp2_with (go_at_call 11; refine HAl.out.mono ?_; rintro e w2 ⟨rfl, hg2⟩)
    go_ret
    exact ⟨rfl, hg2⟩
  · have d1 : ¬ (30 : Int) < (n : Int) := by omega
    have hn30 : n ≤ 30 := by omega
    have hgr := HL.out.size
    go_enter Tryd.func4, Tryd.ntmps4
    go_wp2_with (first
      | (go_at_call 11; refine HAl.out.mono ?_; rintro e w2 ⟨rfl, hg2⟩; have HG2 := Lib.hid hg2; clear hg2)
      | (go_at_call 19; refine (new_any w2).mono ?_; rintro e w3 ⟨rfl, hw3⟩; have HW3 := Lib.hid hw3; clear hw3))
    have S0 : Hid (HashW w (w3.alloc (.cells #[] 5)) w2.heap.size ⟨⟨0, 0, 0, 0, 0, 0, 0, 0⟩, 0, List.replicate 64 0, 0⟩ (.slice (some ⟨w3.heap.size, 0, none⟩) 0 0) []) := Lib.hid (by
      have g3 : w2.grownBy w3 none := by rw [HW3.out]; exact World.grownBy_alloc _ _ _
      have hh : IsHash w3 w2.heap.size ⟨⟨0, 0, 0, 0, 0, 0, 0, 0⟩, 0, List.replicate 64 0, 0⟩ := by rw [HW3.out]; exact alloc_at _ _
      exact ⟨grown_alloc (grown_trans HG2.out g3) _, HG2.out.size, hh.grown (World.grownBy_alloc _ _ none) (by simp), Sha.rep_new, ownsRow_lit (alloc_at _ _) (Nat.le_trans HG2.out.size g3.size) (by simp), by simp⟩)
    go_loopw [3, 4, 21] (fun h v i wr => ∃ (k hb : Nat) (s : Sha.HS) (M : List Nat), k ≤ n ∧ i = .int .i64 k ∧ h = .pointer (some ⟨hb, 0, none⟩) ∧ HashW w wr hb s v M ∧ M.length ≤ 200 * k) (fun _ _ i _ => n - (intOf i).toNat)
    case atStart => exact ⟨0, _, _, [], Nat.zero_le _, rfl, rfl, S0.out, Nat.zero_le _⟩
    case round =>
      obtain ⟨k, hb, s, M, hk, rfl, rfl, hS, hM⟩ := hrel
      have HS := Lib.hid hS
      clear hS
      by_cases hkn : k < n
      · obtain ⟨rfl, ha2⟩ := Ha.out (by omega)
        obtain ⟨bv, hc0, hc1, hBy, hW0⟩ := HP.out k (by rw [Hn.out]; exact hkn)
        generalize steps.getD k (false, []) = fq at *
        obtain ⟨f, q⟩ := fq
        have hsb : sb < wr.heap.size := Nat.lt_of_lt_of_le ha2 HS.out.grown.size
        have hrg : wr.rangeAt sb (so + k * 2) [.bool f, bv] := fun j v hj => by
          match j, hj with
          | 0, hj => cases hj; rw [World.cell?_of_block (HS.out.grown.block sb ha2 (by simp))]; exact hc0
          | 1, hj => cases hj; rw [World.cell?_of_block (HS.out.grown.block sb ha2 (by simp))]; exact hc1
        have hz := alloc_at wr (.cells zeroStep 37)
        obtain ⟨W1, hW1⟩ : ∃ W1, W1 = (wr.alloc (.cells zeroStep 37)).setRow wr.heap.size #[.bool f, bv] := ⟨_, rfl⟩
        have g1 : wr.grownBy W1 none := by rw [hW1]; exact grown_setRow (World.grownBy_alloc _ _ _) (Nat.le_refl _) _
        have b1 : W1.heap[wr.heap.size]? = some (.cells #[.bool f, bv] 37 (0, 0)) := by rw [hW1]; exact setRow_heap _ _ _ _ _ _ hz
        have HZ := Lib.hid hz
        have HW1 := Lib.hid hW1
        have HRG := Lib.hid hrg
        have HBy := Lib.hid hBy
        have HW0 := Lib.hid hW0
        have H1 := Lib.hid (HS.out.grow g1)
        have B1 := Lib.hid b1
        clear hz hW1 hrg hBy hW0 g1 b1 hc0 hc1
        have HByq := HBy.out
        obtain ⟨_, pa, psb, pso, pc, rfl, _, _, _⟩ := HByq
        obtain ⟨ql, hql⟩ : ∃ ql, ql = q.length := ⟨_, rfl⟩
        rw [← hql] at HW1 HRG HBy HW0 B1
        have HO1 : Hid (#[Value.bool f, .slice pa ql pc].all (·.oneCell') = true) := Lib.hid (by simp [Value.oneCell'])
        have HQL := Lib.hid hql
        clear hql
        have arms := trivial
        have k0 := cell_blk B1.out 0 rfl
        have k1 := cell_blk B1.out 1 rfl
        by_cases h200 : 200 < ql
        · go_wp2_with (first
            | (refine wpList_load_mid (by rfl) 37 (.tmp 23) (by rfl) sb (so + k * 2) (by rfl) [.bool f, .slice pa ql pc] _ HRG.out Tryd.underlying37 (by rfl) HIS.out ?_)
            | (refine wpList_store_row (by rfl) 37 (.tmp 6) (.tmp 24) (by rfl) wr.heap.size #[.bool f, .slice pa ql pc] (by rfl) (by rfl) _ _ HZ.out HIS.out rfl HO1.out ?_; rw [← HW1.out]))
          go_ret
          exact ⟨rfl, H1.out.grown⟩
        · cases f
          · obtain ⟨D, hD⟩ : ∃ D, D = bytesV (Sha.sum (M ++ q)) := ⟨_, rfl⟩
            have HD := Lib.hid hD
            have HMl : Hid ((M ++ q).length ≤ 6200) := Lib.hid (by rw [List.length_append, ← HQL.out]; omega)
            have hneq : ∀ W, (binOp .neq 27 (.agg D) (.agg D)).run Tryd.prog W = .ok (.bool false) W := fun W => by
              rw [HD.out]
              exact (eql_bytes_same W 27 5 32 (Sha.sum (M ++ q)) (Sha.sum_len _) Tryd.underlying27 Tryd.underlying5 (fun _ => by kernel_rfl) (fun _ => by kernel_rfl)).2
            clear hD
            have hhb := H1.out.hash.lt
            have E1 : Hid ((W1.alloc (.cells #[] 5)).ownsRow W1.heap.size 5 1 (.slice (some ⟨W1.heap.size, 0, none⟩) 0 0) 0 []) := Lib.hid (ownsRow_lit (alloc_at W1 _) (Nat.le_refl _) (by simp))
            have hblk : wr.heap.size ≠ hb := by have := HS.out.hash.lt; omega
            have hwl : wr.heap.size < W1.heap.size := blk_lt B1.out
            go_wp2_with (first
              | (refine wpList_load_mid (by rfl) 37 (.tmp 23) (by rfl) sb (so + k * 2) (by rfl) [.bool false, .slice pa ql pc] _ HRG.out Tryd.underlying37 (by rfl) HIS.out ?_)
              | (refine wpList_store_row (by rfl) 37 (.tmp 6) (.tmp 24) (by rfl) wr.heap.size #[.bool false, .slice pa ql pc] (by rfl) (by rfl) _ _ HZ.out HIS.out rfl HO1.out ?_; rw [← HW1.out])
              | (at_builtin; refine wpList_appB (by rfl) (.tmp 38) (.tmp 40) 25 (by rfl) W1.heap.size 5 (.int .u8 0) 1 Tryd.underlying25 (by kernel_rfl) rfl (by decide) _ 0 [] (by rfl) E1.out _ q (by rfl) (HBy.out.grown (grown_alloc H1.out.grown _)) HW0.out (by rw [← HQL.out]; omega) (by rw [alloc_size]; omega) ?_; intro v8 w4 ho8 hg8; obtain ⟨a8, g8, c8, rfl, f1, f2, f3, f4⟩ := ownsRow_form ho8; have G4 := Lib.hid (grown_own (World.grownBy_alloc W1 _ none) E1.out (Nat.le_refl _) hg8); have X4 := Lib.hid (H1.out.grow G4.out); have O8 := Lib.hid ho8; have F3 := Lib.hid f3; have F4 := Lib.hid f4; have hs4 := G4.out.size; have k1 := cell_blk ((G4.out.block _ hwl (by simp)).trans B1.out) 1 rfl; clear hg8 ho8 f3 f4)
              | (go_at_call 21; refine (write_core s M X4.out.rep hb (by have := X4.out.le; omega) w4 X4.out.hash (HL.out.grown X4.out.grown (by simp) (by simp)) q HBy.out.lt (by have := HMl.out; rw [List.length_append] at this; omega) a8 g8 0 q.length c8 rfl (by omega) (fun h => ⟨(F3.out (by omega)).1, (F3.out (by omega)).2.2, by have := (F3.out (by omega)).2.1; omega⟩) (fun j hj => by rw [Nat.zero_add, F4.out j (by omega)]; exact cellsL_at q j hj) (by have := HMl.out; rw [List.length_append] at this; omega)).mono ?_; rintro e w5 ⟨rfl, hg5, s5, hH5, hR5⟩; have Y5 := Lib.hid (X4.out.wrote hg5 hH5); have G5 := Lib.hid hg5; have HH5 := Lib.hid hH5; have HR5 := Lib.hid hR5; have hs5 := hg5.size; have k1 := cell_blk (((hg5.block _ (by omega) (by simp; exact hblk))).trans ((G4.out.block _ hwl (by simp)).trans B1.out)) 1 rfl; clear hg5 hH5 hR5)
              | (at_builtin; refine wpList_appB2 (by rfl) (.tmp 45) (.tmp 47) 25 (by rfl) w.heap.size 5 (.int .u8 0) 1 Tryd.underlying25 (by kernel_rfl) rfl (by decide) _ M.length (cellsL M) (by rfl) Y5.out.2 _ q (by rfl) (HBy.out.grown Y5.out.1) HW0.out (by have := HMl.out; rw [List.length_append] at this; omega) Y5.out.1.size ?_; intro v6 w6 ho6 hg6 hsh6; obtain ⟨a6, g6, c6, rfl, _, _, _, _⟩ := ownsRow_form ho6; have HO6 := Lib.hid ho6; have HG6 := Lib.hid hg6; have HSH6 := Lib.hid hsh6; clear ho6 hg6 hsh6))
            have X6 : Hid (HashW w w6 hb s5 (.slice a6 (M.length + q.length) c6) (M ++ q)) := Lib.hid ⟨grown_own Y5.out.1 Y5.out.2 (Nat.le_refl _) HG6.out, HS.out.le, HH5.out.grown HG6.out (fun e => own_ne_hash Y5.out.2 HH5.out e.symm), HR5.out, by rw [List.length_append, cellsL_append]; exact HO6.out, fun x hx => (List.mem_append.1 hx).elim (HS.out.lt x) (HBy.out.lt x)⟩
            have R8 : Hid (0 < q.length → W1.heap.size ≤ g8 ∧ g8 < w6.heap.size ∧ g8 ≠ hb ∧ (Value.slice a6 (M.length + q.length) c6).ownBlock ≠ some g8 ∧ a8 = some ⟨g8, 0, none⟩ ∧ ∃ cur, w6.heap[g8]? = some (.cells cur 5 (0, 0)) ∧ ∀ i, i < q.length → cur[i]? = some (.int .u8 (q.getD i 0 : Nat))) := Lib.hid (fun h0 => by
              obtain ⟨e1, e2, e3⟩ := F3.out (by omega)
              have hv : ∀ g, (u4 : Value).ownBlock = some g → g < W1.heap.size := fun g hg => (H1.out.own.lt g hg).2
              have hne : g8 ≠ hb := by omega
              rcases O8.out.2 with ⟨e, _⟩ | ⟨g, cap, cur, e, _, hg, hn8, _, hcs, ht⟩
              · rw [e1] at e; simp at e
              · obtain rfl : g8 = g := by rw [e1] at e; simp at e; exact e.1
                have h5 : w6.heap[g8]? = some (.cells cur 5 (0, 0)) := by
                  rw [HG6.out.block g8 (by omega) (fun e => by have := hv g8 e.symm; omega), G5.out.block g8 e3 (by simp; exact hne)]
                  exact hg
                refine ⟨e2, blk_lt h5, hne, ?_, e1, cur, h5, fun i hi => ?_⟩
                · rcases HSH6.out with h | h
                  · rw [h]; intro e; have := hv g8 e; omega
                  · rw [h]; intro e; simp at e; omega
                · have : (cellsL q)[i]? = some (.int .u8 (q.getD i 0 : Nat)) := cellsL_at q i hi
                  have ht' : cur.toList.take ((0 + q.length) * 1) = cellsL q := by rw [ht]; rfl
                  rw [← ht', List.getElem?_take, if_pos (by omega)] at this
                  simpa using this)
            have hlen6 : (M ++ q).length = M.length + q.length := List.length_append
            clear O8 F3 F4 HO6 HG6 HSH6 G4 X4 Y5 G5 HH5 HR5 H1 B1 HZ HW1 HRG HO1 k0 k1 E1
            obtain ⟨qn, hqn⟩ : ∃ qn, qn = q.length := ⟨_, rfl⟩
            rw [← hqn] at X6 R8 hlen6 ⊢
            have HQN := Lib.hid hqn
            have HLen6 := Lib.hid hlen6
            clear hqn hlen6
            have hq200 : qn ≤ 200 := by rw [HQN.out, ← HQL.out]; omega
            obtain ⟨wo, rfl⟩ : ∃ wo : World, wo = wr := ⟨_, rfl⟩
            go_loopw [51] (fun i wr => ∃ j : Nat, j ≤ qn ∧ i = .int .i64 j ∧ HashW w wr hb s5 (.slice a6 (M.length + qn) c6) (M ++ q) ∧ (0 < qn → ∃ cur, wr.heap[g8]? = some (.cells cur 5 (0, 0)) ∧ ∀ i, j ≤ i → i < qn → cur[i]? = some (.int .u8 (q.getD i 0 : Nat)))) (fun i _ => qn - (intOf i).toNat)
            case atStart => exact ⟨0, Nat.zero_le _, rfl, X6.out, fun h => by
              obtain ⟨_, _, _, _, _, cur, h1, h2⟩ := R8.out h
              exact ⟨cur, h1, fun i _ hi => h2 i hi⟩⟩
            case round =>
              obtain ⟨j, hj, rfl, hX, hR⟩ := hrel
              by_cases hjq : j < qn
              · obtain ⟨r1, r2, r3, r4, rfl, _⟩ := R8.out (by omega)
                obtain ⟨cur, hcur, hcells⟩ := hR (by omega)
                have c8' := cell_blk hcur j (hcells j (Nat.le_refl _) hjq)
                have f8 := free_blk hcur j
                have HX := Lib.hid hX
                have HC := Lib.hid hcur
                have HCs := Lib.hid hcells
                have R4 := Lib.hid r4
                clear hX hR hcur hcells r4
                go_wp2
                go_roundw
                case rel =>
                  have hgs := fun u => grown_set (grown_refl wr (some g8)) (p := ⟨g8, j, none⟩) (.inr rfl) u
                  refine ⟨j + 1, by omega, by go_num, ⟨grown_set HX.out.grown (.inl (by have := HS.out.hash.lt; show w.heap.size ≤ g8; have := HS.out.le; omega)) _, HX.out.le, HX.out.hash.grown (hgs _) (by simp; omega), HX.out.rep, HX.out.own.kept (hgs _) (.inr R4.out), HX.out.lt⟩, fun _ => ⟨_, setCell_heap HC.out _, fun i h1 h2 => ?_⟩⟩
                  rw [Array.getElem?_setIfInBounds_ne (by omega)]
                  exact HCs.out i (by omega) h2
                case measure => simp [intOf]; omega
              · obtain rfl : j = qn := by omega
                have HX := Lib.hid hX
                have hqq : q.length = j := HQN.out.symm
                clear hX hR R8
                go_wp2_with (first
                | (go_at_call 22; refine (hsum_any s5 (M ++ q) HX.out.rep (by have := HMl.out; omega) hb (by have := HX.out.le; omega) wr HX.out.hash (HL.out.grown HX.out.grown (by simp) (by simp))).mono ?_; rintro e wA ⟨rfl, hgA⟩; rw [← HD.out]; have XA := Lib.hid (HX.out.grow hgA); clear hgA)
                | (go_at_call 15; refine (refSum_any _ (M ++ q) wA XA.out.bytes XA.out.whole (by have := HMl.out; omega)).mono ?_; rintro e wB ⟨rfl, hgB⟩; rw [← HD.out]; have XB := Lib.hid (XA.out.grow hgB); clear hgB)
                | (go_at_call 23; refine (len_any s5 (M ++ q) XB.out.rep (by have := HMl.out; omega) hb wB XB.out.hash).mono ?_; rintro e wC ⟨rfl, qC, rfl⟩; have XC := Lib.hid (XB.out.grow (grown_drewN (grown_refl wB none) qC))))
                go_roundw
                case rel => exact ⟨k + 1, _, _, _, by omega, by go_num, rfl, XC.out, by rw [HLen6.out]; omega⟩
                case measure => simp [intOf]; omega
          · obtain ⟨av, gv, cv, rfl, _, _, _, _⟩ := ownsRow_form H1.out.own
            obtain ⟨D, hD⟩ : ∃ D, D = bytesV (Sha.sum M) := ⟨_, rfl⟩
            have HD := Lib.hid hD
            have HMl : Hid (M.length ≤ 6000) := Lib.hid (by omega)
            have hneq : ∀ W, (binOp .neq 27 (.agg D) (.agg D)).run Tryd.prog W = .ok (.bool false) W := fun W => by
              rw [HD.out]
              exact (eql_bytes_same W 27 5 32 (Sha.sum M) (Sha.sum_len M) Tryd.underlying27 Tryd.underlying5 (fun _ => by kernel_rfl) (fun _ => by kernel_rfl)).2
            clear hD
            have hhb := H1.out.hash.lt
            go_wp2_with (first
              | (refine wpList_load_mid (by rfl) 37 (.tmp 23) (by rfl) sb (so + k * 2) (by rfl) [.bool true, .slice pa ql pc] _ HRG.out Tryd.underlying37 (by rfl) HIS.out ?_)
              | (refine wpList_store_row (by rfl) 37 (.tmp 6) (.tmp 24) (by rfl) wr.heap.size #[.bool true, .slice pa ql pc] (by rfl) (by rfl) _ _ HZ.out HIS.out rfl HO1.out ?_; rw [← HW1.out])
              | (go_at_call 20; refine (copy_any s H1.out.rep.ok hb W1 H1.out.hash).mono ?_; rintro e w2 ⟨rfl, hg2, hH2⟩; have hconv := conv25 5 w2 #[.int .u8 111, .int .u8 116, .int .u8 104, .int .u8 101, .int .u8 114] rfl; have X2 := Lib.hid (H1.out.grow hg2); have HH2 := Lib.hid hH2; have hs2 : W1.heap.size < w2.heap.size := blk_lt hH2; clear hg2 hH2)
              | (go_at_call 21; refine (write_core s M X2.out.rep hb (by have := X2.out.le; omega) _ (X2.out.hash.grown (World.grownBy_alloc w2 _ none) (by simp)) (HL.out.grown (grown_alloc X2.out.grown _) (by simp) (by simp)) [111, 116, 104, 101, 114] (by decide) (by have := HMl.out; simp; omega) (some ⟨w2.heap.size, 0, none⟩) w2.heap.size 0 5 5 rfl (Nat.le_refl _) (fun _ => ⟨rfl, by rw [alloc_size]; omega, by omega⟩) (fun j hj => by rw [Nat.zero_add]; exact cell_blk (alloc_at w2 _) j (by match j, hj with | 0, _ => rfl | 1, _ => rfl | 2, _ => rfl | 3, _ => rfl | 4, _ => rfl)) (by decide)).mono ?_; rintro e w4 ⟨rfl, hg4, s4, hH4, hR4⟩; have X3 := Lib.hid (X2.out.grow (World.grownBy_alloc w2 (Obj.cells #[.int .u8 111, .int .u8 116, .int .u8 104, .int .u8 101, .int .u8 114] 5 (5, 6)) none)); have X4 : Hid (HashW w w4 W1.heap.size s (.slice av M.length cv) M) := Lib.hid ⟨(X3.out.wrote hg4 hH4).1, H1.out.grown.size, (HH2.out.grown (World.grownBy_alloc w2 _ none) (by simp)).grown hg4 (by simp; omega), X3.out.rep, (X3.out.wrote hg4 hH4).2, X3.out.lt⟩; clear hg4 hH4 hR4)
              | (go_at_call 22; refine (hsum_any s M X4.out.rep (by have := HMl.out; omega) W1.heap.size (by have := X4.out.le; omega) w4 X4.out.hash (HL.out.grown X4.out.grown (by simp) (by simp))).mono ?_; rintro e wA ⟨rfl, hgA⟩; rw [← HD.out]; have XA := Lib.hid (X4.out.grow hgA); clear hgA)
              | (go_at_call 15; refine (refSum_any _ M wA XA.out.bytes XA.out.whole (by have := HMl.out; omega)).mono ?_; rintro e wB ⟨rfl, hgB⟩; rw [← HD.out]; have XB := Lib.hid (XA.out.grow hgB); clear hgB)
              | (go_at_call 23; refine (len_any s M XB.out.rep (by have := HMl.out; omega) W1.heap.size wB XB.out.hash).mono ?_; rintro e wC ⟨rfl, qC, rfl⟩; have XC := Lib.hid (XB.out.grow (grown_drewN (grown_refl wB none) qC))))
            go_roundw
            case rel => exact ⟨k + 1, _, _, _, by omega, by go_num, rfl, XC.out, by omega⟩
            case measure => simp [intOf]; omega
      · obtain rfl : k = n := by omega
        have X1 := HS
        obtain ⟨av, gv, cv, rfl, _, _, _, _⟩ := ownsRow_form HS.out.own
        obtain ⟨D, hD⟩ : ∃ D, D = bytesV (Sha.sum M) := ⟨_, rfl⟩
        have HD := Lib.hid hD
        have HMl : Hid (M.length ≤ 6000) := Lib.hid (by omega)
        have heql : ∀ W, (binOp .eql 27 (.agg D) (.agg D)).run Tryd.prog W = .ok (.bool true) W := fun W => by
          rw [HD.out]
          exact (eql_bytes_same W 27 5 32 (Sha.sum M) (Sha.sum_len M) Tryd.underlying27 Tryd.underlying5 (fun _ => by kernel_rfl) (fun _ => by kernel_rfl)).1
        have hfl : [M].flatten = M := by simp
        have HFL := Lib.hid hfl
        clear hD hfl
        go_wp2_with (first
          | (go_at_call 22; refine (hsum_any s M X1.out.rep (by have := HMl.out; omega) hb (by have := X1.out.le; omega) wr X1.out.hash (HL.out.grown X1.out.grown (by simp) (by simp))).mono ?_; rintro e wA ⟨rfl, hgA⟩; rw [← HD.out]; have XA := Lib.hid (X1.out.grow hgA); clear hgA)
          | (go_at_call 14; refine (psum_any [M] (some ⟨wA.heap.size, 0, none⟩) wA.heap.size 0 1 1 rfl (wA.alloc (.cells #[.slice av M.length cv] 25)) (fun _ => ⟨rfl, by rw [alloc_size]; omega⟩) (fun i hi => by match i, hi with | 0, _ => exact ⟨_, cell_blk (alloc_at _ _) 0 rfl, XA.out.bytes.grown (World.grownBy_alloc _ _ none)⟩) (by rw [HFL.out]; have := HMl.out; omega) (by decide) (HL.out.grown (grown_alloc XA.out.grown _) (by simp) (by simp))).mono ?_; rintro e wB ⟨rfl, hgB⟩; rw [HFL.out, ← HD.out]; have XB := Lib.hid (grown_trans (grown_alloc XA.out.grown _) hgB); clear hgB))
        go_ret
        exact ⟨rfl, XB.out⟩
end Go.Proofs.YtckdkcfhkakcfaaDoor
