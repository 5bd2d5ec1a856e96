import Derived.Test.YtgdnndapmcjoeaaDoorKa24
import Derived.Test.YtgdnndapmcjoeaaDoorKa25
namespace Go.Proofs.YtgdnndapmcjoeaaDoor
open Go.RowKit
theorem frame_lt (W : List Nat) (parts : List (List Nat)) (h0 : fErr W parts = 0) (hW : ∀ x ∈ W, x < 256) (hp : ∀ p ∈ parts, ∀ x ∈ p, x < 256) : ∀ x ∈ frameOf W parts, x < 256 := by
  have hw : wordB W = true := by
    cases h : wordB W
    · rw [fErr, if_pos h] at h0; cases h0
    · rfl
  have hn : ¬ 16 < parts.length := fun h => by
    rw [fErr, if_neg (by rw [hw]; simp), if_pos h] at h0; cases h0
  rw [wordB, Bool.and_eq_true, decide_eq_true_eq] at hw
  intro x hx
  rw [frameOf, List.mem_append] at hx
  rcases hx with hx | hx
  · exact fhead_lt W parts.length hW (by omega) (by omega) x hx
  · exact fbody_lt parts hp x hx
end Go.Proofs.YtgdnndapmcjoeaaDoor
namespace Go.Proofs.YtgdnndapmcjoeaaDoor
open Go.RowKit
end Go.Proofs.YtgdnndapmcjoeaaDoor
namespace Go.Proofs.YtgdnndapmcjoeaaDoor
theorem parts_of_fErr {W : List Nat} {A : List (List Nat)} (h : fErr W A = 0) : (∀ p ∈ A, p.length ≤ 65536) ∧ A.length ≤ 16 ∧ W.length ≤ 32 := by
  unfold fErr at h
  cases hw : wordB W
  · rw [if_pos hw] at h; cases h
  · rw [if_neg (by rw [hw]; simp)] at h
    by_cases h1 : 16 < A.length
    · rw [if_pos h1] at h; cases h
    · rw [if_neg h1] at h
      by_cases h2 : ∃ p ∈ A, 65536 < p.length
      · rw [if_pos h2] at h; cases h
      · rw [wordB, Bool.and_eq_true, decide_eq_true_eq] at hw
        exact ⟨fun p hp => Nat.le_of_not_lt fun hh => h2 ⟨p, hp, hh⟩, by omega, by omega⟩
end Go.Proofs.YtgdnndapmcjoeaaDoor
namespace Go.Proofs.YtgdnndapmcjoeaaDoor
open Go.RowKit
set_option maxRecDepth 100000 in
set_option maxHeartbeats 1000000 in
theorem same_any (v u : Value) (A B : List Nat) (w : World) (hA : Bytes w v A) (hB : Bytes w u B) (hm : A.length ≤ 1152921504606846976) (hm2 : B.length ≤ 1152921504606846976) :
    Calls Tryd.prog 34 #[v, u] w fun e w' => e = .returned (.bool (decide (A = B))) ∧ ∃ m, w' = w.drewN m := by
  obtain ⟨hA1, a, sa, oa, ca, rfl, hca, haa, hcA⟩ := hA
  obtain ⟨hB1, b, sb, ob, cb, rfl, hcb, hbb, hcB⟩ := hB
  obtain ⟨n, hn⟩ : ∃ n, n = A.length := ⟨_, rfl⟩
  obtain ⟨m, hm'⟩ : ∃ n, n = B.length := ⟨_, rfl⟩
  rw [← hn] at hca haa hcA hm ⊢
  rw [← hm'] at hcb hbb hcB hm2 ⊢
  have Hn := Lib.hid hn
  have Hm := Lib.hid hm'
  have HcA := Lib.hid hcA
  have HcB := Lib.hid hcB
  have Haa := Lib.hid haa
  have Hbb := Lib.hid hbb
  have HA := Lib.hid hA1
  have HB := Lib.hid hB1
  clear hn hm' hcA hcB haa hbb hA1 hB1
  go_enter Tryd.func34, Tryd.ntmps34
  by_cases hnm : n = m
  · subst hnm
    have hne : ((n : Int) != (n : Int)) = false := by simp
    go_wp2
    go_loopw [5, 14] (fun x i wr => ∃ k : Nat, k ≤ n ∧ i = .int .i64 k ∧ x = .int .u8 (unl A B k : Nat) ∧ ∃ q, wr = w.drewN q) (fun _ i _ => n - (intOf i).toNat)
    case atStart => exact ⟨0, Nat.zero_le _, rfl, rfl, 0, rfl⟩
    case round =>
      obtain ⟨k, hk, rfl, rfl, q, rfl⟩ := hrel
      by_cases hkn : k < n
      · obtain ⟨rfl, ha2⟩ := Haa.out (by omega)
        obtain ⟨rfl, hb2⟩ := Hbb.out (by omega)
        have c1 : w.cell? ⟨sa, oa + k, none⟩ = some (.int .u8 (A.getD k 0 : Nat)) := HcA.out k hkn
        have c2 : w.cell? ⟨sb, ob + k, none⟩ = some (.int .u8 (B.getD k 0 : Nat)) := HcB.out k (by omega)
        have hx := unl_lt HA.out HB.out k
        have h1 := getD_lt' HA.out k
        have h2 := getD_lt' HB.out k
        have HU := Lib.hid (u8_or_xor _ _ _ hx h1 h2)
        have HU2 : Hid (unl A B (k + 1) = unl A B k ||| (A.getD k 0 ^^^ B.getD k 0)) := Lib.hid rfl
        generalize unl A B k = x at *
        generalize A.getD k 0 = y at *
        generalize B.getD k 0 = z at *
        go_wp2
        go_quiet (fail)
        go_wp2
        go_roundw
        case rel => exact ⟨k + 1, by omega, by go_num, by rw [HU2.out, ← HU.out], _, rfl⟩
        case measure => simp [intOf]; omega
      · obtain rfl : k = n := by omega
        go_wp2
        go_ret
        refine ⟨?_, q, rfl⟩
        have := unl_all (A := A) (B := B) (by rw [← Hn.out, ← Hm.out])
        rw [← this, ← Hn.out]
        show Ending.returned (.bool _) = Ending.returned (.bool _)
        refine congrArg (fun b => Ending.returned (.bool b)) ?_
        rw [Bool.eq_iff_iff]; simp
  · have hne : ((n : Int) != (m : Int)) = true := by simp; omega
    go_wp2
    go_ret
    refine ⟨?_, 0, rfl⟩
    show Ending.returned (.bool false) = _
    rw [decide_eq_false (fun e : A = B => hnm (by rw [Hn.out, Hm.out, e]))]
end Go.Proofs.YtgdnndapmcjoeaaDoor
namespace Go.Proofs.YtgdnndapmcjoeaaDoor
open Go.RowKit
def marks : List Nat := [201, 202, 203, 204, 205, 206]
theorem marks_lt : ∀ x ∈ marks, x < 256 := by decide
/-- The bytes and the marks behind them, in one block. -/
def Room (w : World) (g : Nat) (l : List Nat) : Prop := ∀ j, j < l.length + 6 → w.cell? ⟨g, j, none⟩ = some (.int .u8 ((l ++ marks).getD j 0 : Nat))
theorem Room.grown {w w' : World} {g : Nat} {l : List Nat} {row : Option Nat} (h : Room w g l) (hb : g < w.heap.size) (hg : w.grownBy w' row) (hne : some g ≠ row) : Room w' g l := fun j hj => by
  rw [World.cell?_of_block (hg.block g hb hne)]; exact h j hj
theorem Room.bytes {w : World} {g c : Nat} {l : List Nat} (h : Room w g l) (hl : ∀ x ∈ l, x < 256) (hb : g < w.heap.size) (hc : l.length ≤ c) : Bytes w (.slice (some ⟨g, 0, none⟩) l.length c) l :=
  ⟨hl, _, g, 0, c, rfl, hc, fun _ => ⟨rfl, hb⟩, fun j hj => by rw [Nat.zero_add, h j (by omega)]; simp [List.getD_eq_getElem?_getD, List.getElem?_append_left hj]⟩
set_option maxRecDepth 100000 in
set_option maxHeartbeats 400000 in
theorem numBytes_any (v : Value) (l : List Nat) (w : World) (hB : Bytes w v l) (h0 : Whole0 v) (hl : l.length ≤ 1099511620000) :
    Calls Tryd.prog 8 #[v] w fun e w' => ∃ g c, e = .returned (.slice (some ⟨g, 0, none⟩) l.length c) ∧ l.length + 6 ≤ c ∧ c ≤ maxLen ∧ w.heap.size ≤ g ∧ (∃ cur fr, w'.heap[g]? = some (.cells cur 5 fr)) ∧ w.grownBy w' none ∧ Room w' g l := by
  have HB := Lib.hid hB
  have H0 := Lib.hid h0
  obtain ⟨_, va, vb, vo, vc, rfl, _, _, _⟩ := hB
  obtain ⟨n, hn⟩ : ∃ n, n = l.length := ⟨_, rfl⟩
  have HN := Lib.hid hn
  rw [← hn] at HB H0 hl ⊢
  clear hn h0
  obtain ⟨iT, i1, i2, i3, i4⟩ := info_parts (P := Tryd.prog) (e := 5) (z := .int .u8 0) (size := 1) (bytes := 1) (by kernel_rfl)
  have Hi1 := Lib.hid i1
  have Hi2 := Lib.hid i2
  have Hi3 := Lib.hid i3
  have Hi4 := Lib.hid i4
  clear i1 i2 i3 i4
  have hme : (cellsL marks).toArray = #[Value.int IntKind.u8 201, Value.int IntKind.u8 202, Value.int IntKind.u8 203, Value.int IntKind.u8 204, Value.int IntKind.u8 205, Value.int IntKind.u8 206] := rfl
  go_enter Tryd.func8, Tryd.ntmps8
  go_wp2_with (first
    | (refine wpList_make_own _ (by rfl) (.const (.int .i64 0)) (.tmp 6) 22 (by rfl) w.heap.size 5 iT (.int .u8 0) 1 Tryd.underlying22 Hi1.out Hi2.out Hi3.out .i64 .i64 _ (n + 6) (by rfl) (by rfl) (by go_num) (by rw [Hi4.out]; omega) (by unfold maxLen; omega) (Nat.le_refl _) ?_; intro w1 ho1 hg1; have F1 := Lib.hid (FrW.mk (l := []) hg1 ho1); clear ho1 hg1)
    | (at_builtin; refine wpList_appB (by rfl) (.tmp 7) (.tmp 8) 22 (by rfl) w.heap.size 5 (.int .u8 0) 1 Tryd.underlying22 (by kernel_rfl) rfl (by decide) _ 0 [] (by rfl) F1.out.own _ l (by rfl) (HB.out.grown F1.out.grown) H0.out (by rw [← HN.out]; omega) F1.out.le ?_; intro v2 w2 ho2 hg2; have F2 := Lib.hid (F1.out.step (l' := l) ho2 hg2 rfl); clear ho2 hg2)
    | (at_builtin; rw [← hme]; refine wpList_appB (by rfl) (.tmp 9) (.tmp 10) 22 (by rfl) w.heap.size 5 (.int .u8 0) 1 Tryd.underlying22 (by kernel_rfl) rfl (by decide) v2 l.length (cellsL l) (by rfl) (F2.out.own.alloc _) (.slice (some ⟨w2.heap.size, 0, none⟩) 6 6) marks (by rfl) (Bytes.lit (alloc_at w2 _) marks_lt) (Whole0.some _ _ _) (by show l.length + 6 ≤ _; rw [← HN.out]; omega) (by have := F2.out.le; rw [alloc_size]; omega) ?_; intro v3 w3 ho3 hg3; have F3 := Lib.hid ((F2.out.alloc _).step (l' := l ++ marks) ho3 hg3 (cellsL_append _ _).symm); obtain ⟨a3, g, c, rfl, q1, q2, q3, q4⟩ := ownsRow_form ho3; have hq1 : n + 6 ≤ c := (by rw [HN.out]; exact q1); obtain ⟨rfl, q5, q6⟩ := q3 (by show 0 < l.length + 6; omega); have HQ4 := Lib.hid q4; have hblk : ∃ cur fr, w3.heap[g]? = some (.cells cur 5 fr) := (by rcases ho3.2 with ⟨e, _⟩ | ⟨g', cap', cur', e, _, hh, _⟩ <;> cases e; exact ⟨_, _, hh⟩); have hlm : l.length + marks.length = n + 6 := (by rw [HN.out]; rfl); rw [hlm]; clear ho3 hg3 q3 q4 hlm))
  go_ret
  refine ⟨g, c, rfl, hq1, q2, q5, hblk, F3.out.grown, fun j hj => ?_⟩
  rw [HQ4.out j (by show j < l.length + 6; exact hj)]
  rw [← cellsL_append]
  exact cellsL_at _ j (by rw [List.length_append]; exact hj)
set_option maxRecDepth 100000 in
set_option maxHeartbeats 400000 in
theorem kept_any (g n c : Nat) (u : Value) (l : List Nat) (w : World) (hn : l.length = n) (hc : n + 6 ≤ c) (hc2 : c ≤ 9223372036854775807) (hg : g < w.heap.size) (hR : Room w g l) (hB : Bytes w u l) :
    Calls Tryd.prog 12 #[.slice (some ⟨g, 0, none⟩) n c, u] w fun e w' => e = .returned (.bool true) ∧ ∃ m, w' = w.drewN m := by
  have hB2 := hR.bytes hB.lt hg (show l.length ≤ c by omega)
  rw [hn] at hB2
  have HR := Lib.hid hR
  have HN := Lib.hid hn
  have c1 : ∀ m, (convert 22 9 (.slice (some ⟨g, 0, none⟩) n c)).run Tryd.prog (w.drewN m) = .ok (.string (strOf l)) (w.drewN m) := fun m => conv_bytes (hB2.grown (grown_drewN (grown_refl _ _) m)) _ 5 _ Tryd.underlying22 Tryd.underlying5 Tryd.underlying9
  have c2 : ∀ m, (convert 22 9 u).run Tryd.prog (w.drewN m) = .ok (.string (strOf l)) (w.drewN m) := fun m => conv_bytes (hB.grown (grown_drewN (grown_refl _ _) m)) _ 5 _ Tryd.underlying22 Tryd.underlying5 Tryd.underlying9
  obtain ⟨_, ua, ub, uo, uc, rfl, _, _, _⟩ := hB
  rw [hn] at c2 ⊢
  generalize strOf l = sl at c1 c2
  have d1 : decide ((c : Int) < (n : Int) + 6) = false := decide_eq_false (by omega)
  clear hB2 hR hn
  go_enter Tryd.func12, Tryd.ntmps12
  go_wp2
  go_quiet (fail)
  go_wp2
  go_loopw [6] (fun i wr => ∃ k : Nat, k ≤ 6 ∧ i = .int .i64 k ∧ ∃ q, wr = w.drewN q) (fun i _ => 6 - (intOf i).toNat)
  case atStart => exact ⟨0, by omega, rfl, _, rfl⟩
  case round =>
    obtain ⟨k, hk, rfl, q, rfl⟩ := hrel
    by_cases hk6 : k < 6
    · have hcell : w.cell? ⟨g, n + k, none⟩ = some (.int .u8 (201 + (k : Int))) := by
        have := HR.out (n + k) (by rw [HN.out]; omega)
        rw [this]
        have e : (l ++ marks).getD (n + k) 0 = 201 + k := by
          rw [List.getD_eq_getElem?_getD, List.getElem?_append_right (by rw [HN.out]; omega), HN.out, show n + k - n = k by omega]
          match k, hk6 with
          | 0, _ => rfl
          | 1, _ => rfl
          | 2, _ => rfl
          | 3, _ => rfl
          | 4, _ => rfl
          | 5, _ => rfl
        rw [e]; simp
      have hkk : n + k < c := by omega
      clear d1 c1 c2
      go_wp2
      go_roundw
      case rel => exact ⟨k + 1, by omega, by go_num, q, rfl⟩
      case measure => simp [intOf]; omega
    · obtain rfl : k = 6 := by omega
      clear d1 c1 c2
      go_wp2
      go_ret
      exact ⟨rfl, q, rfl⟩
end Go.Proofs.YtgdnndapmcjoeaaDoor
