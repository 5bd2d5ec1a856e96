import Derived.Test.YtgdnndapmcjoeaaDoorKb24
namespace Go.Proofs.YtgdnndapmcjoeaaDoor
open Go.RowKit
/-- What the two errors' variables hold. -/
structure Errs (w : World) (eT eL : Value) : Prop where
  text : w.cell? ⟨7, 0, none⟩ = some eT
  long : w.cell? ⟨1, 0, none⟩ = some eL
  size : 7 < w.heap.size ∧ 1 < w.heap.size
theorem Errs.grown {w w' : World} {eT eL : Value} (h : Errs w eT eL) (hg : w.grownBy w' none) : Errs w' eT eL :=
  ⟨by rw [World.cell?_of_block (hg.block _ h.size.1 (by simp))]; exact h.text, by rw [World.cell?_of_block (hg.block _ h.size.2 (by simp))]; exact h.long, Nat.lt_of_lt_of_le h.size.1 hg.size, Nat.lt_of_lt_of_le h.size.2 hg.size⟩
/-- What Frame answers. -/
def FramePost (w : World) (s : ByteArray) (parts : List (List Nat)) (eT eL : Value) (e : Ending) (w' : World) : Prop :=
  w.grownBy w' none ∧ ∃ v u, e = .returned (.tuple #[v, u]) ∧
    ((fErr (strL s) parts = 0 ∧ u = .nilIface ∧ FrW w w' v (frameOf (strL s) parts)) ∨
     (fErr (strL s) parts = 8 ∧ v = .slice none 0 0 ∧ u = eT) ∨
     (fErr (strL s) parts = 3 ∧ v = .slice none 0 0 ∧ u = eL))
set_option maxRecDepth 100000 in
set_option maxHeartbeats 1000000 in
theorem frame_any (s : ByteArray) (parts : List (List Nat)) (a : Option Addr) (sb so n c : Nat) (hn : parts.length = n) (w : World) (ha : 0 < n → a = some ⟨sb, so, none⟩ ∧ sb < w.heap.size) (hP : PartsW w sb so parts)
    (hs : s.size ≤ 1099511620000) (hnn : n ≤ 1099511620000) (eT eL : Value) (hE : Errs w eT eL) :
    Calls Tryd.prog 42 #[.string s, .slice a n c] w (FramePost w s parts eT eL) := by
  have cT := hE.text
  have cL := hE.long
  have HE := Lib.hid hE
  clear hE
  obtain ⟨m, hm⟩ : ∃ m, m = s.size := ⟨_, rfl⟩
  have Hm := Lib.hid hm
  have Hn := Lib.hid hn
  have Ha := Lib.hid ha
  have HP := Lib.hid hP
  have hword := word_any s (by omega)
  have HW := Lib.hid hword
  clear hword hn ha hP
  cases hwB : wordB (strL s)
  · have HB := Lib.hid hwB
    go_enter Tryd.func42, Tryd.ntmps42
    go_wp2_with (go_at_call 53; refine (HW.out _).mono ?_; rintro e w2 ⟨rfl, rfl⟩; simp only [hwB])
    go_quiet (fail)
    go_wp2
    go_ret2
    exact ⟨grown_drewN (grown_refl _ _) _, _, _, rfl, .inr (.inl ⟨by rw [fErr, if_pos HB.out], rfl, rfl⟩)⟩
  · have HB := Lib.hid hwB
    by_cases hn16 : n ≤ 16
    · have d1 : ¬ ((16 : Int) < (n : Int)) := by omega
      have hm32 : m ≤ 32 ∧ 1 ≤ m := by
        have := hwB
        rw [wordB, Bool.and_eq_true, decide_eq_true_eq, strL_len, ← hm] at this
        omega
      have HM32 := Lib.hid hm32
      obtain ⟨M, hM⟩ : ∃ M, M = (fhead (strL s) n).length := ⟨_, rfl⟩
      have hM2 : M = m + 2 := by rw [hM, fhead, List.length_cons, List.length_append, strL_len, ← hm]; rfl
      have HM2 := Lib.hid hM2
      have e0 : (s.size : Int) = (m : Int) := by rw [hm]
      clear hM hM2 hwB hs hnn hm
      go_enter Tryd.func42, Tryd.ntmps42
      go_wp2_with (go_at_call 53; refine (HW.out _).mono ?_; rintro e w2 ⟨rfl, hw2⟩; have hw3 := hw2.symm; subst hw3; simp only [HB.out])
      go_loopw [6, 26] (fun x i wr => ∃ k : Nat, k ≤ n ∧ i = .int .i64 k ∧ x = .int .i64 (m + 2 + (fbody (parts.take k)).length : Nat) ∧ wr = w ∧ ∀ j, j < k → (parts.getD j []).length ≤ 65536) (fun _ i _ => n - (intOf i).toNat)
      case atStart => exact ⟨0, Nat.zero_le _, rfl, by simp only [fbody, List.take_zero, List.length_nil]; go_num, rfl, fun j hj => absurd hj (Nat.not_lt_zero _)⟩
      case round =>
        obtain ⟨k, hk, rfl, rfl, hwr, hall⟩ := hrel
        have hwr' := hwr.symm
        subst hwr'
        clear hwr
        have hlen := fbody_take_len parts k (by rw [Hn.out]; exact hk) hall
        have HA := Lib.hid hall
        have HLn := Lib.hid hlen
        have hb1 : (fbody (parts.take k)).length ≤ 65540 * 16 := Nat.le_trans hlen (Nat.mul_le_mul_left _ (by omega))
        have HBT := Lib.hid (fbody_take parts k)
        clear hall hlen
        by_cases hkn : k < n
        · obtain ⟨rfl, ha2⟩ := Ha.out (by omega)
          obtain ⟨pv, hpc, hBy, hW0⟩ := HP.out k (by rw [Hn.out]; exact hkn)
          have hBT := HBT.out (by rw [Hn.out]; exact hkn)
          obtain ⟨q, hq⟩ : ∃ q, q = parts.getD k [] := ⟨_, rfl⟩
          rw [← hq] at hBy hBT
          have hl2 : (fbody (parts.take (k + 1))).length = (fbody (parts.take k)).length + (4 + q.length) := by rw [hBT, List.length_append, List.length_append]; rfl
          obtain ⟨_, pa, psb, pso, pc, rfl, hpc2, _, _⟩ := hBy
          have HL2 := Lib.hid hl2
          have Hq := Lib.hid hq
          clear hBT hq hW0 hl2
          generalize (fbody (parts.take k)).length = L at *
          obtain ⟨ql, hql⟩ : ∃ ql, ql = q.length := ⟨_, rfl⟩
          rw [← hql] at hpc hpc2 HL2
          have HQL := Lib.hid hql
          clear hql
          by_cases hbig : 65536 < ql
          · have HF : Hid (fErr (strL s) parts = 3) := Lib.hid (by
              rw [fErr, if_neg (by rw [HB.out]; simp), if_neg (by rw [Hn.out]; omega), if_pos]
              refine ⟨q, ?_, by rw [← HQL.out]; exact hbig⟩
              rw [Hq.out, List.getD_eq_getElem?_getD, List.getElem?_eq_getElem (by rw [Hn.out]; exact hkn)]
              exact List.getElem_mem _)
            go_wp2
            go_quiet (fail)
            go_wp2
            go_ret2
            exact ⟨grown_drewN (grown_refl _ _) _, _, _, rfl, .inr (.inr ⟨HF.out, rfl, rfl⟩)⟩
          · go_wp2
            go_roundw
            case rel =>
              refine ⟨k + 1, by omega, by go_num, ?_, trivial, fun j hj => ?_⟩
              · rw [HL2.out]; go_num
              · rcases Nat.lt_or_ge j k with h | h
                · exact HA.out j h
                · obtain rfl : j = k := by omega
                  rw [← Hq.out, ← HQL.out]; omega
            case measure => simp [intOf]; omega
        · obtain rfl : k = n := by omega
          obtain ⟨L, hL⟩ : ∃ L, L = (fbody (parts.take k)).length := ⟨_, rfl⟩
          rw [← hL] at hb1 ⊢
          clear hL
          obtain ⟨iT, i1, i2, i3, i4⟩ := info_parts (P := Tryd.prog) (e := 5) (z := .int .u8 0) (size := 1) (bytes := 1) (by kernel_rfl)
          have Hi1 := Lib.hid i1
          have Hi2 := Lib.hid i2
          have Hi3 := Lib.hid i3
          have Hi4 := Lib.hid i4
          clear i1 i2 i3 i4
          go_wp2_with (first
            | (refine wpList_make_own _ (by rfl) (.const (.int .i64 0)) (.tmp 40) 22 (by rfl) w.heap.size 5 iT (.int .u8 0) 1 Tryd.underlying22 Hi1.out Hi2.out Hi3.out .i64 .i64 _ (m + 2 + L) (by rfl) (by rfl) (by go_num) (by rw [Hi4.out]; omega) (by unfold maxLen; omega) (Nat.le_refl _) ?_; intro w1 ho1 hg1; have F1 := Lib.hid (FrW.mk (l := []) hg1 ho1); clear ho1 hg1)
            | (at_builtin; refine wpList_app1 (by rfl) (.tmp 42) (.tmp 46) 22 (by rfl) w.heap.size 5 (.int .u8 0) 1 Tryd.underlying22 (by kernel_rfl) rfl (by decide) _ 0 [] (by rfl) (F1.out.own.alloc _) ⟨w1.heap.size, 0, none⟩ _ (by rfl) (cell_blk (alloc_at _ _) 0 rfl) rfl (by omega) (by have := F1.out.le; rw [alloc_size]; omega) ?_; intro v2 w2 ho2 hg2; have F2 := Lib.hid ((F1.out.alloc _).step (l' := [m]) ho2 hg2 rfl); clear ho2 hg2)
            | (at_builtin; refine wpList_appS (by rfl) (.tmp 48) (.tmp 49) 22 9 (by rfl) w.heap.size 5 Tryd.underlying22 Tryd.underlying9 (by kernel_rfl) v2 1 (cellsL [m]) (by rfl) F2.out.own s (by rfl) (by omega) F2.out.le ?_; intro v3 w3 ho3 hg3; have F3 := Lib.hid (F2.out.step (l' := m :: strL s) ho3 hg3 rfl); clear ho3 hg3)
            | (at_builtin; refine wpList_app1 (by rfl) (.tmp 51) (.tmp 55) 22 (by rfl) w.heap.size 5 (.int .u8 0) 1 Tryd.underlying22 (by kernel_rfl) rfl (by decide) v3 (m :: strL s).length (cellsL (m :: strL s)) (by rfl) (F3.out.own.alloc _) ⟨w3.heap.size, 0, none⟩ _ (by rfl) (cell_blk (alloc_at _ _) 0 rfl) rfl (by rw [List.length_cons, strL_len]; omega) (by have := F3.out.le; rw [alloc_size]; omega) ?_; intro v4 w4 ho4 hg4; have F4 := Lib.hid ((F3.out.alloc _).step (l' := fhead (strL s) k) ho4 hg4 (by rw [fhead, strL_len, ← Hm.out]; simp [cellsL])); clear ho4 hg4))
          have hLf : Hid ((fhead (strL s) k).length = m + 2) := Lib.hid (by rw [fhead, List.length_cons, List.length_append, strL_len, ← Hm.out]; rfl)
          go_loopw [9, 59] (fun x i wr => ∃ j : Nat, j ≤ k ∧ i = .int .i64 j ∧ FrW w wr x (fhead (strL s) k ++ fbody (parts.take j))) (fun _ i _ => k - (intOf i).toNat)
          case atStart => exact ⟨0, Nat.zero_le _, rfl, by simpa [fbody] using F4.out⟩
          case round =>
            obtain ⟨j, hj, rfl, hF⟩ := hrel
            have hlen := fbody_take_len parts j (by rw [Hn.out]; exact hj) (fun i hi => HA.out i (by omega))
            have hb2 : (fhead (strL s) k ++ fbody (parts.take j)).length ≤ 1048700 := by
              rw [List.length_append, hLf.out]
              have : 65540 * j ≤ 65540 * 16 := Nat.mul_le_mul_left _ (by omega)
              omega
            have HF := Lib.hid hF
            clear hlen
            by_cases hjk : j < k
            · obtain ⟨rfl, ha2⟩ := Ha.out (by omega)
              obtain ⟨pv, hpc, hBy, hW0⟩ := HP.out j (by rw [Hn.out]; exact hjk)
              have hc1 : wr.cell? ⟨sb, so + j, none⟩ = some pv := by rw [World.cell?_of_block (hF.grown.block sb ha2 (by simp))]; exact hpc
              have hq65 := HA.out j hjk
              have hft := fbody_take parts j (by rw [Hn.out]; exact hjk)
              obtain ⟨q, hq⟩ : ∃ q, q = parts.getD j [] := ⟨_, rfl⟩
              rw [← hq] at hBy hft hq65
              have HX : Hid (fhead (strL s) k ++ fbody (parts.take (j + 1)) = fhead (strL s) k ++ fbody (parts.take j) ++ be4 q.length ++ q) := Lib.hid (by rw [hft]; simp [List.append_assoc])
              have HBy := Lib.hid hBy
              have HW0 := Lib.hid hW0
              clear hq hft hW0 hF
              generalize fhead (strL s) k ++ fbody (parts.take j) = X at *
              obtain ⟨_, pa, psb, pso, pc, rfl, hpc2, _, _⟩ := hBy
              obtain ⟨ql, hql⟩ : ∃ ql, ql = q.length := ⟨_, rfl⟩
              have HQL := Lib.hid hql
              rw [← hql] at hpc hpc2 hc1 hq65 HBy HW0 HX
              clear hql hpc hpc2
              go_wp2_with (first
                | (go_at_call 54; refine (size_any u9 X.length ql w.heap.size (cellsL X) _ HF.out.own HF.out.le (by omega) (by omega)).mono ?_; rintro e w5 ⟨v5, rfl, ho5, hg5⟩; have F5 := Lib.hid (HF.out.step (l' := X ++ be4 ql) ho5 hg5 (cellsL_append _ _).symm); clear ho5 hg5)
                | (at_builtin; refine wpList_appB (by rfl) (.tmp 67) (.tmp 68) 22 (by rfl) w.heap.size 5 (.int .u8 0) 1 Tryd.underlying22 (by kernel_rfl) rfl (by decide) v5 (X ++ be4 ql).length (cellsL (X ++ be4 ql)) (by rfl) F5.out.own _ q (by rfl) (HBy.out.grown F5.out.grown) HW0.out (by rw [List.length_append, ← HQL.out]; show X.length + 4 + ql ≤ _; omega) F5.out.le ?_; intro v6 w6 ho6 hg6; have F6 := Lib.hid (F5.out.step (l' := X ++ be4 ql ++ q) ho6 hg6 (cellsL_append _ _).symm); clear ho6 hg6))
              go_roundw
              case rel => exact ⟨j + 1, by omega, by go_num, by rw [HX.out]; exact F6.out⟩
              case measure => simp [intOf]; omega
            · obtain rfl : j = k := by omega
              clear hF
              go_wp2
              go_ret2
              refine ⟨HF.out.grown, _, _, rfl, .inl ⟨?_, rfl, ?_⟩⟩
              · rw [fErr, if_neg (by rw [HB.out]; simp), if_neg (by rw [Hn.out]; omega), if_neg]
                rintro ⟨p, hp, hpl⟩
                obtain ⟨i, hi, rfl⟩ := List.mem_iff_getElem.1 hp
                have := HA.out i (by rw [← Hn.out]; exact hi)
                rw [List.getD_eq_getElem?_getD, List.getElem?_eq_getElem hi] at this
                simp at this
                omega
              · rw [frameOf, Hn.out]
                have := HF.out
                rwa [List.take_of_length_le (by rw [Hn.out]; exact Nat.le_refl _)] at this
    · have HF : Hid (fErr (strL s) parts = 3) := Lib.hid (by rw [fErr, if_neg (by rw [hwB]; simp), if_pos (by rw [Hn.out]; omega)])
      have d1 : (16 : Int) < (n : Int) := by omega
      go_enter Tryd.func42, Tryd.ntmps42
      go_wp2_with (go_at_call 53; refine (HW.out _).mono ?_; rintro e w2 ⟨rfl, rfl⟩; simp only [hwB])
      go_quiet (fail)
      go_wp2
      go_ret2
      exact ⟨grown_drewN (grown_refl _ _) _, _, _, rfl, .inr (.inr ⟨HF.out, rfl, rfl⟩)⟩
end Go.Proofs.YtgdnndapmcjoeaaDoor
namespace Go.Proofs.YtgdnndapmcjoeaaDoor
open Go.RowKit
theorem frame_lt (W : List Nat) (parts : List (List Nat)) (h0 : fErr W parts = 0) (hW : ∀ x ∈ W, x < 256) (hp : ∀ p ∈ parts, ∀ x ∈ p, x < 256) : ∀ x ∈ frameOf W parts, x < 256 := by
  have hw : wordB W = true := by
    cases h : wordB W
    · rw [fErr, if_pos h] at h0; cases h0
    · rfl
  have hn : ¬ 16 < parts.length := fun h => by
    rw [fErr, if_neg (by rw [hw]; simp), if_pos h] at h0; cases h0
  rw [wordB, Bool.and_eq_true, decide_eq_true_eq] at hw
  intro x hx
  rw [frameOf, List.mem_append] at hx
  rcases hx with hx | hx
  · exact fhead_lt W parts.length hW (by omega) (by omega) x hx
  · exact fbody_lt parts hp x hx
end Go.Proofs.YtgdnndapmcjoeaaDoor
namespace Go.Proofs.YtgdnndapmcjoeaaDoor
open Go.RowKit
end Go.Proofs.YtgdnndapmcjoeaaDoor
namespace Go.Proofs.YtgdnndapmcjoeaaDoor
theorem parts_of_fErr {W : List Nat} {A : List (List Nat)} (h : fErr W A = 0) : (∀ p ∈ A, p.length ≤ 65536) ∧ A.length ≤ 16 ∧ W.length ≤ 32 := by
  unfold fErr at h
  cases hw : wordB W
  · rw [if_pos hw] at h; cases h
  · rw [if_neg (by rw [hw]; simp)] at h
    by_cases h1 : 16 < A.length
    · rw [if_pos h1] at h; cases h
    · rw [if_neg h1] at h
      by_cases h2 : ∃ p ∈ A, 65536 < p.length
      · rw [if_pos h2] at h; cases h
      · rw [wordB, Bool.and_eq_true, decide_eq_true_eq] at hw
        exact ⟨fun p hp => Nat.le_of_not_lt fun hh => h2 ⟨p, hp, hh⟩, by omega, by omega⟩
end Go.Proofs.YtgdnndapmcjoeaaDoor
namespace Go.Proofs.YtgdnndapmcjoeaaDoor
open Go.RowKit
set_option maxRecDepth 100000 in
set_option maxHeartbeats 1000000 in
theorem same_any (v u : Value) (A B : List Nat) (w : World) (hA : Bytes w v A) (hB : Bytes w u B) (hm : A.length ≤ 1152921504606846976) (hm2 : B.length ≤ 1152921504606846976) :
    Calls Tryd.prog 34 #[v, u] w fun e w' => e = .returned (.bool (decide (A = B))) ∧ ∃ m, w' = w.drewN m := by
  obtain ⟨hA1, a, sa, oa, ca, rfl, hca, haa, hcA⟩ := hA
  obtain ⟨hB1, b, sb, ob, cb, rfl, hcb, hbb, hcB⟩ := hB
  obtain ⟨n, hn⟩ : ∃ n, n = A.length := ⟨_, rfl⟩
  obtain ⟨m, hm'⟩ : ∃ n, n = B.length := ⟨_, rfl⟩
  rw [← hn] at hca haa hcA hm ⊢
  rw [← hm'] at hcb hbb hcB hm2 ⊢
  have Hn := Lib.hid hn
  have Hm := Lib.hid hm'
  have HcA := Lib.hid hcA
  have HcB := Lib.hid hcB
  have Haa := Lib.hid haa
  have Hbb := Lib.hid hbb
  have HA := Lib.hid hA1
  have HB := Lib.hid hB1
  clear hn hm' hcA hcB haa hbb hA1 hB1
  go_enter Tryd.func34, Tryd.ntmps34
  by_cases hnm : n = m
  · subst hnm
    have hne : ((n : Int) != (n : Int)) = false := by simp
    go_wp2
    go_loopw [5, 14] (fun x i wr => ∃ k : Nat, k ≤ n ∧ i = .int .i64 k ∧ x = .int .u8 (unl A B k : Nat) ∧ ∃ q, wr = w.drewN q) (fun _ i _ => n - (intOf i).toNat)
    case atStart => exact ⟨0, Nat.zero_le _, rfl, rfl, 0, rfl⟩
    case round =>
      obtain ⟨k, hk, rfl, rfl, q, rfl⟩ := hrel
      by_cases hkn : k < n
      · obtain ⟨rfl, ha2⟩ := Haa.out (by omega)
        obtain ⟨rfl, hb2⟩ := Hbb.out (by omega)
        have c1 : w.cell? ⟨sa, oa + k, none⟩ = some (.int .u8 (A.getD k 0 : Nat)) := HcA.out k hkn
        have c2 : w.cell? ⟨sb, ob + k, none⟩ = some (.int .u8 (B.getD k 0 : Nat)) := HcB.out k (by omega)
        have hx := unl_lt HA.out HB.out k
        have h1 := getD_lt' HA.out k
        have h2 := getD_lt' HB.out k
        have HU := Lib.hid (u8_or_xor _ _ _ hx h1 h2)
        have HU2 : Hid (unl A B (k + 1) = unl A B k ||| (A.getD k 0 ^^^ B.getD k 0)) := Lib.hid rfl
        generalize unl A B k = x at *
        generalize A.getD k 0 = y at *
        generalize B.getD k 0 = z at *
        go_wp2
        go_quiet (fail)
        go_wp2
        go_roundw
        case rel => exact ⟨k + 1, by omega, by go_num, by rw [HU2.out, ← HU.out], _, rfl⟩
        case measure => simp [intOf]; omega
      · obtain rfl : k = n := by omega
        go_wp2
        go_ret
        refine ⟨?_, q, rfl⟩
        have := unl_all (A := A) (B := B) (by rw [← Hn.out, ← Hm.out])
        rw [← this, ← Hn.out]
        show Ending.returned (.bool _) = Ending.returned (.bool _)
        refine congrArg (fun b => Ending.returned (.bool b)) ?_
        rw [Bool.eq_iff_iff]; simp
  · have hne : ((n : Int) != (m : Int)) = true := by simp; omega
    go_wp2
    go_ret
    refine ⟨?_, 0, rfl⟩
    show Ending.returned (.bool false) = _
    rw [decide_eq_false (fun e : A = B => hnm (by rw [Hn.out, Hm.out, e]))]
end Go.Proofs.YtgdnndapmcjoeaaDoor
