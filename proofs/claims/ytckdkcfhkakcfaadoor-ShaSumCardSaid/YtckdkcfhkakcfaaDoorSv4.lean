/- The walk of the law ShaSum. -/
import Derived.Test.YtckdkcfhkakcfaaDoorSv3
import Derived.Test.YtckdkcfhkakcfaaDoorSv5
namespace Go.Proofs.YtckdkcfhkakcfaaDoor
open Go.RowKit

theorem SumW.appended {w b c : World} {v v' v2 : Value} {parts : List (List Nat)} {k n' : Nat} {xs ys : List Value} (h : SumW w b v v2 parts k xs) (ho : c.ownsRow w.heap.size 5 1 v' n' ys) (hg : b.grownBy c v.ownBlock)
    (hsh : v'.ownBlock = v.ownBlock ∨ v'.ownBlock = some b.heap.size) (e : ys = cellsL (parts.take (k + 1)).flatten) :
    FrW w c v' (parts.take (k + 1)).flatten ∧ c.ownsRow w.heap.size 25 1 v2 k xs ∧ ∀ i, i < k → ∃ x, xs[i]? = some x ∧ Copied w c x (parts.getD i []) ∧ v'.ownBlock ≠ x.ownBlock := by
  refine ⟨h.all.step ho hg e, h.row.kept hg (row_ne_own h.all.own h.row), fun i hi => ?_⟩
  obtain ⟨x, h1, h2, h3⟩ := h.each i hi
  refine ⟨x, h1, h2.grown hg (.inl (Ne.symm h3)), ?_⟩
  rcases hsh with h4 | h4
  · rw [h4]; exact h3
  · obtain ⟨g, c', rfl, _, _, _, ⟨cur, fr, hh⟩, _⟩ := h2
    rw [h4]
    intro e
    have := blk_lt hh
    simp [Value.ownBlock] at e
    omega

/-- Behind the copy and its place in the list. -/
theorem SumW.next {w w3 w4 w5 : World} {v3 v2 v5 : Value} {parts : List (List Nat)} {k g c : Nat} {xs : List Value} (hk : k < parts.length)
    (hA : FrW w w3 v3 (parts.take (k + 1)).flatten ∧ w3.ownsRow w.heap.size 25 1 v2 k xs ∧ ∀ i, i < k → ∃ x, xs[i]? = some x ∧ Copied w w3 x (parts.getD i []) ∧ v3.ownBlock ≠ x.ownBlock)
    (hc1 : (parts.getD k []).length + 6 ≤ c) (hc2 : c ≤ maxLen) (hg : w3.heap.size ≤ g) (hb : ∃ cur fr, w4.heap[g]? = some (.cells cur 5 fr)) (g4 : w3.grownBy w4 none) (hR : Room w4 g (parts.getD k []))
    {o : Obj} (ho : w5.ownsRow w.heap.size 25 1 v5 (k + 1) (xs ++ [.slice (some ⟨g, 0, none⟩) (parts.getD k []).length c])) (hg5 : (w4.alloc o).grownBy w5 v2.ownBlock) : SumW w w5 v3 v5 parts (k + 1) (xs ++ [.slice (some ⟨g, 0, none⟩) (parts.getD k []).length c]) := by
  obtain ⟨hF, hrow, heach⟩ := hA
  have gA := grown_alloc g4 o
  have hrowA : (w4.alloc o).ownsRow w.heap.size 25 1 v2 k xs := hrow.kept gA (Classical.em _)
  have hownA : (w4.alloc o).ownsRow w.heap.size 5 1 v3 (parts.take (k + 1)).flatten.length (cellsL (parts.take (k + 1)).flatten) := hF.own.kept gA (Classical.em _)
  have hxl : xs.length = k := by have := hrow.1; omega
  refine ⟨⟨grown_own (grown_trans hF.grown gA) hrowA (Nat.le_refl _) hg5, hownA.kept hg5 (own_ne_own hownA hrowA)⟩, ho, fun i hi => ?_⟩
  rcases Nat.lt_or_ge i k with h | h
  · obtain ⟨x, h1, h2, h3⟩ := heach i h
    have h2A := h2.grown gA (.inr rfl)
    exact ⟨x, by rw [List.getElem?_append_left (by omega)]; exact h1, h2A.grown hg5 (.inl (copied_ne_row h2A hrowA)), h3⟩
  · obtain rfl : i = k := by omega
    have hcp : Copied w w4 (.slice (some ⟨g, 0, none⟩) (parts.getD i []).length c) (parts.getD i []) := ⟨g, c, rfl, hc1, hc2, Nat.le_trans hF.le hg, hb, hR⟩
    have hcpA := hcp.grown (World.grownBy_alloc w4 o none) (.inr rfl)
    refine ⟨_, by rw [List.getElem?_append_right (by omega), hxl, Nat.sub_self]; rfl, hcpA.grown hg5 (.inl (copied_ne_row hcpA hrowA)), fun e => ?_⟩
    have := (hF.own.lt g (by rw [e]; rfl)).2
    omega

theorem SumW.grow {w wr wr' : World} {v v2 : Value} {parts : List (List Nat)} {k : Nat} {xs : List Value} (h : SumW w wr v v2 parts k xs) (hg : wr.grownBy wr' none) : SumW w wr' v v2 parts k xs :=
  ⟨⟨grown_trans h.all.grown hg, h.all.own.kept hg (Classical.em _)⟩, h.row.kept hg (Classical.em _), fun i hi => by
    obtain ⟨x, h1, h2, h3⟩ := h.each i hi
    exact ⟨x, h1, h2.grown hg (.inr rfl), h3⟩⟩

set_option maxRecDepth 100000 in
set_option maxHeartbeats 4000000 in
theorem shaSum_any (parts : List (List Nat)) (a : Option Addr) (sb so n c : Nat) (hn : parts.length = n) (w : World) (ha : 0 < n → a = some ⟨sb, so, none⟩ ∧ sb < w.heap.size) (hP : PartsW w sb so parts)
    (hnn : n ≤ 9223372036854775807) (hL : Laid w) :
    Calls Tryd.prog 3 #[.slice a n c] w fun e w' => e = .returned (.bool true) ∧ w.grownBy w' none := by
  have HAl := Lib.hid (alive_any w hL)
  have HLo : Hid (∀ W', w.grownBy W' none → Calls Tryd.prog 12 #[.slice a n c] W' fun e w' => e = .returned (.bool (longB 0 parts)) ∧ w' = W') := Lib.hid (fun W' hg => long1_any parts a sb so n c hn W' (fun h => ⟨(ha h).1, Nat.lt_of_lt_of_le (ha h).2 hg.size⟩) (hP.grown (fun h => (ha (by omega)).2) hg) hnn)
  have HL := Lib.hid hL
  have HP := Lib.hid hP
  have Ha := Lib.hid ha
  have Hn := Lib.hid hn
  have hzz := zeros32_at w
  clear hL hP ha hn
  cases hlong : longB 0 parts with
  | true =>
    rw [hlong] at HLo
    go_enter Tryd.func3, Tryd.ntmps3
    go_wp2_with (first
      | (go_at_call 11; refine HAl.out.mono ?_; rintro e w2 ⟨rfl, hg2⟩)
      | (go_at_call 12; refine (HLo.out w2 hg2).mono ?_; rintro e w3 ⟨rfl, hw3⟩; have hw3' := hw3.symm; subst hw3'))
    go_ret
    exact ⟨rfl, hg2⟩
  | false =>
    rw [hlong] at HLo
    have hlo := of_decide_eq_false hlong
    have hn20 : n ≤ 20 := by
      rcases Nat.lt_or_ge 20 n with h | h
      · exact absurd (.inr (.inl (by rw [Hn.out]; exact h))) hlo
      · exact h
    have h300 : ∀ i, (parts.getD i []).length ≤ 300 := fun i => by
      rcases Nat.lt_or_ge i parts.length with h | h
      · rcases Nat.lt_or_ge 300 (parts.getD i []).length with h2 | h2
        · exact absurd (.inr (.inr ⟨_, getD_mem h, h2⟩)) hlo
        · exact h2
      · rw [List.getD_eq_getElem?_getD, List.getElem?_eq_none h]; simp
    have hflat : ∀ k, ((parts.take k).flatten).length ≤ 300 * k := fun k => by
      induction k with
      | zero => simp
      | succ k ih =>
        rcases Nat.lt_or_ge k parts.length with h | h
        · rw [flatten_take parts k h, List.length_append]; have := h300 k; omega
        · rw [List.take_of_length_le (by omega)]; rw [List.take_of_length_le h] at ih; omega
    have H300 := Lib.hid h300
    have HFl := Lib.hid hflat
    clear hlo hlong h300 hflat
    go_enter Tryd.func3, Tryd.ntmps3
    go_wp2_with (first
      | (go_at_call 11; refine HAl.out.mono ?_; rintro e w2 ⟨rfl, hg2⟩)
      | (go_at_call 12; refine (HLo.out w2 hg2).mono ?_; rintro e w3 ⟨rfl, hw3⟩; have hw3' := hw3.symm; subst hw3'; clear hw3))
    have S0 : Hid (SumW w ((w2.alloc (.cells #[] 5)).alloc (.cells #[] 25)) (.slice (some ⟨w2.heap.size, 0, none⟩) 0 0) (.slice (some ⟨w2.heap.size + 1, 0, none⟩) 0 0) parts 0 []) := Lib.hid (by
      have hs := hg2.size
      exact ⟨⟨grown_alloc (grown_alloc hg2 _) _, (ownsRow_lit (alloc_at w2 _) hs (by simp)).alloc _⟩, ownsRow_lit (alloc2_new w2 _ _) (by omega) (by simp), fun i hi => absurd hi (Nat.not_lt_zero _)⟩)
    go_loopw [3, 4, 18] (fun x y i wr => ∃ (k : Nat) (xs : List Value), k ≤ n ∧ i = .int .i64 k ∧ SumW w wr x y parts k xs) (fun _ _ i _ => n - (intOf i).toNat)
    case atStart => exact ⟨0, [], Nat.zero_le _, rfl, S0.out⟩
    case round =>
      obtain ⟨k, xs, hk, rfl, hS⟩ := hrel
      have HS := Lib.hid hS
      clear hS
      by_cases hkn : k < n
      · obtain ⟨rfl, ha2⟩ := Ha.out (by omega)
        obtain ⟨pv, hpc, hBy, hW0⟩ := HP.out k (by rw [Hn.out]; exact hkn)
        have hc1 : wr.cell? ⟨sb, so + k, none⟩ = some pv := by rw [World.cell?_of_block (HS.out.all.grown.block sb ha2 (by simp))]; exact hpc
        have hq := H300.out k
        have HFT := Lib.hid (flatten_take parts k (by rw [Hn.out]; exact hkn))
        have hfk := HFl.out k
        have HBy := Lib.hid hBy
        have HW0 := Lib.hid hW0
        have hkl : k < parts.length := by rw [Hn.out]; exact hkn
        have HNX : Hid (∀ (w3 w4 w5 : World) (v3 v5 : Value) (g c : Nat) (o : Obj), (FrW w w3 v3 (parts.take (k + 1)).flatten ∧ w3.ownsRow w.heap.size 25 1 u4 k xs ∧ ∀ i, i < k → ∃ x, xs[i]? = some x ∧ Copied w w3 x (parts.getD i []) ∧ v3.ownBlock ≠ x.ownBlock) →
            (parts.getD k []).length + 6 ≤ c → c ≤ maxLen → w3.heap.size ≤ g → (∃ cur fr, w4.heap[g]? = some (.cells cur 5 fr)) → w3.grownBy w4 none → Room w4 g (parts.getD k []) →
            w5.ownsRow w.heap.size 25 1 v5 (k + 1) (xs ++ [.slice (some ⟨g, 0, none⟩) (parts.getD k []).length c]) → (w4.alloc o).grownBy w5 (u4 : Value).ownBlock → SumW w w5 v3 v5 parts (k + 1) (xs ++ [.slice (some ⟨g, 0, none⟩) (parts.getD k []).length c])) :=
          Lib.hid (fun w3 w4 w5 v3 v5 g c o h1 h2 h3 h4 h5 h6 h7 h8 h9 => SumW.next hkl h1 h2 h3 h4 h5 h6 h7 h8 h9)
        clear hpc hBy hW0 hkl
        generalize parts.getD k [] = q at *
        go_wp2_with (first
          | (at_builtin; refine wpList_appB2 (by rfl) (.tmp 22) (.tmp 23) 25 (by rfl) w.heap.size 5 (.int .u8 0) 1 Tryd.underlying25 (by kernel_rfl) rfl (by decide) u3 _ _ (by rfl) HS.out.all.own pv q (by rfl) (HBy.out.grown HS.out.all.grown) HW0.out (by omega) HS.out.all.le ?_; intro v3 w3 ho3 hg3 hsh3; have A3 := Lib.hid (HS.out.appended ho3 hg3 hsh3 (by rw [HFT.out, cellsL_append])); clear ho3 hg3 hsh3)
          | (go_at_call 13; refine (numBytes_any pv q w3 (HBy.out.grown A3.out.1.grown) HW0.out (by omega)).mono ?_; rintro e w4 ⟨g4, c4, rfl, r1, r2, r3, r4, r5, r6⟩; have R := Lib.hid (And.intro r1 (And.intro r2 (And.intro r3 (And.intro r4 (And.intro r5 r6))))); clear r1 r2 r3 r4 r5 r6)
          | (at_builtin; refine wpList_app1 (by rfl) (.tmp 25) (.tmp 28) 22 (by rfl) w.heap.size 25 (.slice none 0 0) 24 Tryd.underlying22 (by kernel_rfl) rfl (by decide) u4 k xs (by rfl) ((A3.out.2.1.kept R.out.2.2.2.2.1 (Classical.em _)).alloc _) ⟨w4.heap.size, 0, none⟩ (.slice (some ⟨g4, 0, none⟩) q.length c4) (by rfl) (cell_blk (alloc_at _ _) 0 rfl) rfl (by omega) (by have := A3.out.1.le; have := R.out.2.2.2.2.1.size; rw [alloc_size]; omega) ?_; intro v5 w5 ho5 hg5; have X5 := Lib.hid (HNX.out w3 w4 w5 v3 v5 g4 c4 _ A3.out R.out.1 R.out.2.1 R.out.2.2.1 R.out.2.2.2.1 R.out.2.2.2.2.1 R.out.2.2.2.2.2 ho5 hg5); clear ho5 hg5))
        go_roundw
        case rel => exact ⟨k + 1, _, by omega, by go_num, X5.out⟩
        case measure => simp [intOf]; omega
      · obtain rfl : k = n := by omega
        obtain ⟨a2, g2, c2, rfl, q1, q2, q3, q4⟩ := ownsRow_form HS.out.row
        have htk : (parts.take k).flatten = parts.flatten := by rw [List.take_of_length_le (by rw [Hn.out]; exact Nat.le_refl _)]
        have hM : parts.flatten.length ≤ 6000 := by have := HFl.out k; rw [htk] at this; omega
        have HS0 : Hid (SumW w wr u3 (.slice a2 k c2) parts k xs) := HS
        have HMlt : Hid (∀ x ∈ parts.flatten, x < 256) := Lib.hid (fun x hx => by
          obtain ⟨p, hp, hxp⟩ := List.mem_flatten.1 hx
          obtain ⟨i, hi, rfl⟩ := mem_getD hp
          obtain ⟨_, _, hBy, _⟩ := HP.out i hi
          exact hBy.lt x hxp)
        have hPA : PartsAt wr g2 0 parts := fun i hi => by
          obtain ⟨x, hx, hcp, _⟩ := HS.out.each i (by rw [← Hn.out]; exact hi)
          obtain ⟨g, c', rfl, h1, h2, h3, ⟨cur, fr, h4⟩, h5⟩ := hcp
          obtain ⟨pv, _, hBy, _⟩ := HP.out i hi
          exact ⟨_, by rw [Nat.zero_add, q4 i (by rw [← Hn.out]; exact hi)]; exact hx, h5.bytes hBy.lt (blk_lt h4) (by omega)⟩
        have hA2 : 0 < k → a2 = some ⟨g2, 0, none⟩ ∧ g2 < wr.heap.size := fun h => ⟨(q3 h).1, (q3 h).2.2⟩
        obtain ⟨D, hD⟩ : ∃ D, D = bytesV (Sha.sum parts.flatten) := ⟨_, rfl⟩
        have hDl : D.size = 32 := by rw [hD, bytesV_size, Sha.sum_len]
        have HD := Lib.hid hD
        have HDl := Lib.hid hDl
        have HI3 : Hid ((Tryd.prog.info? 27).map (·.size) = some D.size) := by rw [hDl]; exact Lib.hid (by kernel_rfl)
        have HI4 : Hid (zeros32.size = D.size) := by rw [hDl]; exact Lib.hid rfl
        have HO1 : Hid (D.all (·.oneCell') = true) := by rw [hD]; exact Lib.hid (bytesV_one _)
        have HPA := Lib.hid hPA
        have HA2 := Lib.hid hA2
        have HQ4 := Lib.hid q4
        have HTK := Lib.hid htk
        clear hD hDl hPA hA2 q3 q4 htk
        go_wp2_with (first
          | (go_at_call 14; refine (psum_any parts a2 g2 0 k c2 Hn.out wr HA2.out HPA.out (by omega) (by omega) (HL.out.grown HS0.out.all.grown (by simp) (by simp))).mono ?_; rintro e w4 ⟨rfl, hg4⟩; rw [← HD.out]; have G4 := Lib.hid hg4; have HZ4 := Lib.hid (alloc_at w4 (.cells zeros32 27)); clear hg4)
          | (refine wpList_store_row (by rfl) 27 (.tmp 7) (.tmp 32) (by rfl) w4.heap.size D (by rfl) (by rfl) _ _ HZ4.out HI3.out HI4.out HO1.out ?_; obtain ⟨W5, hW5⟩ : ∃ W5, W5 = (w4.alloc (.cells zeros32 27)).setRow w4.heap.size D := ⟨_, rfl⟩; rw [← hW5]; have S5 := Lib.hid ((HS0.out.grow G4.out).grow (show w4.grownBy W5 none by rw [hW5]; exact grown_setRow (World.grownBy_alloc _ _ _) (Nat.le_refl _) _)); have b5 : Hid (W5.heap[w4.heap.size]? = some (.cells D 27 (0, 0))) := Lib.hid (by rw [hW5]; exact setRow_heap _ _ _ _ _ _ HZ4.out); clear hW5)
          | (go_at_call 15; refine (refSum_any u3 (parts.take k).flatten W5 (Bytes.own S5.out.all.own (by rw [HTK.out]; exact HMlt.out)) (Whole0.own S5.out.all.own) (by rw [HTK.out]; omega)).mono ?_; rintro e w6 ⟨rfl, hg6⟩; rw [HTK.out, ← HD.out]; have G6 := Lib.hid hg6; have HZ6 := Lib.hid (alloc_at w6 (.cells zeros32 27)); clear hg6)
          | (refine wpList_store_row (by rfl) 27 (.tmp 8) (.tmp 34) (by rfl) w6.heap.size D (by rfl) (by rfl) _ _ HZ6.out HI3.out HI4.out HO1.out ?_; obtain ⟨W7, hW7⟩ : ∃ W7, W7 = (w6.alloc (.cells zeros32 27)).setRow w6.heap.size D := ⟨_, rfl⟩; rw [← hW7]; have g67 : Hid (w6.grownBy W7 none) := Lib.hid (by rw [hW7]; exact grown_setRow (World.grownBy_alloc _ _ _) (Nat.le_refl _) _); have b7 : Hid (W7.heap[w6.heap.size]? = some (.cells D 27 (0, 0))) := Lib.hid (by rw [hW7]; exact setRow_heap _ _ _ _ _ _ HZ6.out); clear hW7))
        have S7 := Lib.hid ((S5.out.grow G6.out).grow g67.out)
        have B5 : Hid (W7.heap[w4.heap.size]? = some (.cells D 27 (0, 0))) := Lib.hid ((g67.out.block _ (by have := G6.out.size; have := blk_lt b5.out; omega) (by simp)).trans ((G6.out.block _ (blk_lt b5.out) (by simp)).trans b5.out))
        clear HS0 HS HPA G4 HZ4 S5 b5 G6 HZ6 g67
        obtain ⟨wo, rfl⟩ : ∃ wo : World, wo = wr := ⟨_, rfl⟩
        go_loopw [37] (fun i wr => ∃ j : Nat, j ≤ k ∧ i = .int .i64 j ∧ ∃ q, wr = W7.drewN q) (fun i _ => k - (intOf i).toNat)
        case atStart => exact ⟨0, Nat.zero_le _, rfl, 0, rfl⟩
        case round =>
          obtain ⟨j, hj, rfl, q, rfl⟩ := hrel
          by_cases hjk : j < k
          · obtain ⟨rfl, ha2⟩ := Ha.out (by omega)
            obtain ⟨e2, hg2l⟩ := HA2.out (by omega)
            obtain ⟨pv, hpc, hBy, _⟩ := HP.out j (by rw [Hn.out]; exact hjk)
            obtain ⟨x, hx, hcp, _⟩ := S7.out.each j hjk
            have d1 : W7.cell? ⟨sb, so + j, none⟩ = some pv := by rw [World.cell?_of_block (S7.out.all.grown.block sb ha2 (by simp))]; exact hpc
            have d2 : W7.cell? ⟨g2, j, none⟩ = some x := by
              have hrow := S7.out.row
              obtain ⟨a', g', c', e', p1, p2, p3, p4⟩ := ownsRow_form hrow
              cases e'
              obtain ⟨e3, _⟩ := p3 (by omega)
              rw [e2] at e3
              obtain rfl : g2 = g' := by simpa using e3
              rw [p4 j hjk]
              exact hx
            subst e2
            obtain ⟨g, cc, rfl, h1, h2, h3, ⟨cur, fr, h4⟩, h5⟩ := hcp
            have HK : Hid (∀ m, Calls Tryd.prog 16 #[.slice (some ⟨g, 0, none⟩) (parts.getD j []).length cc, pv] (W7.drewN m) fun e w' => e = .returned (.bool true) ∧ ∃ m', w' = (W7.drewN m).drewN m') :=
              Lib.hid (fun m => kept_any g _ cc pv (parts.getD j []) (W7.drewN m) rfl h1 (by unfold maxLen at h2; omega) (blk_lt h4) h5 (hBy.grown (grown_drewN S7.out.all.grown m)))
            have HK2 : Hid (∀ q m, Calls Tryd.prog 16 #[.slice (some ⟨g, 0, none⟩) (parts.getD j []).length cc, pv] (W7.drewN (q + m)) fun e w' => e = .returned (.bool true) ∧ ∃ n, w' = W7.drewN (q + n)) :=
              Lib.hid (fun q m => (HK.out (q + m)).mono fun e w' ⟨h1, m', h2⟩ => ⟨h1, m + m', by rw [h2, World.drewN_drewN, Nat.add_assoc]⟩)
            clear hpc hBy hx h1 h2 h3 h4 h5
            generalize (parts.getD j []).length = ql at *
            go_wp2
            go_quiet ((go_at_call 16; with_reducible exact HK2.out _ _))
            go_wp2
            go_roundw
            case rel => exact ⟨j + 1, by omega, by go_num, _, rfl⟩
            case measure => simp [intOf]; omega
          · obtain rfl : j = k := by omega
            go_wp2
            obtain ⟨a1, g1, c1, rfl, _, _, _, _⟩ := ownsRow_form S7.out.all.own
            obtain ⟨X, hX⟩ : ∃ X, X = strOf (hexL (Sha.sum parts.flatten)) := ⟨_, rfl⟩
            have HX := Lib.hid hX
            have hown := S7.out.all.own
            obtain ⟨m1, hm1⟩ : ∃ m1, m1 = (parts.take j).flatten.length := ⟨_, rfl⟩
            rw [← hm1] at hown ⊢
            rw [HTK.out] at hown
            have HBy := Lib.hid (Bytes.own hown HMlt.out)
            have S7g := Lib.hid S7.out.all.grown
            clear hX hown hm1 S7
            refine sum_region _ D X a1 m1 c1 w4.heap.size w6.heap.size W7 (W7.drewN q) _ rfl rfl rfl rfl B5.out b7.out HI3.out (fun W => ?_) (fun x w' hg hx => ?_) (fun w' => ?_) (fun w' hg => ?_) ⟨rfl, rfl, rfl, Nat.le_refl _, fun _ _ _ => rfl⟩ (fun a' w' hd hv hg => ?_)
            · rw [HD.out]
              exact (eql_bytes_same W 27 5 32 (Sha.sum parts.flatten) (Sha.sum_len _) Tryd.underlying27 Tryd.underlying5 (fun _ => by kernel_rfl) (fun _ => by kernel_rfl)).1
            · obtain ⟨g, rfl, hgl, hcell⟩ := hx
              refine (psum_any [parts.flatten] (some ⟨g, 0, none⟩) g 0 1 1 rfl w' (fun _ => ⟨rfl, hgl⟩) (fun i hi => ?_) (by have e : [parts.flatten].flatten = parts.flatten := (by simp); rw [e]; omega) (by decide) (HL.out.grown (grown_trans S7g.out hg) (by simp) (by simp))).mono ?_
              · match i, hi with
                | 0, _ => exact ⟨_, hcell, HBy.out.grown hg⟩
              · rintro e w'' ⟨rfl, hg'⟩
                refine ⟨_, rfl, hg', ?_⟩
                show _ = Value.agg D
                rw [HD.out]
                simp
            · rw [HD.out]
              refine (text_any (Sha.sum parts.flatten) (Sha.sum_len _) (sum_lt _) w').mono ?_
              rintro e w'' ⟨rfl, hg'⟩
              exact ⟨_, rfl, hg', by rw [HX.out]; rfl⟩
            · have hblk := (hg.block _ (blk_lt b7.out) (by simp)).trans b7.out
              have hB := Bytes.lit (w := w') (g := w6.heap.size) (l := Sha.sum parts.flatten) (t := 27) (fr := (0, 0)) (by rw [hblk, HD.out]; rfl) (sum_lt _)
              rw [Sha.sum_len] at hB
              refine (refText_any _ (Sha.sum parts.flatten) w' hB (by rw [Sha.sum_len]; decide)).mono ?_
              rintro e w'' ⟨rfl, hg'⟩
              exact ⟨_, rfl, hg', by rw [HX.out]; rfl⟩
            · go_wp2
              refine bodyPost_ret (results_tmp rfl _ _ _) hd ?_
              rw [hv]
              exact ⟨rfl, grown_trans S7g.out hg⟩
end Go.Proofs.YtckdkcfhkakcfaaDoor
