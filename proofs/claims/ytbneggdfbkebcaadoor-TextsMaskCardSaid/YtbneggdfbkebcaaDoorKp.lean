/- The walks of bullanum's Bytes and Kept: a copy with marked room behind, and whether list and room stand. -/
import Derived.Test.YtbneggdfbkebcaaDoorMs4
namespace Go.Proofs.YtbneggdfbkebcaaDoor
open Go.RowKit

def marks : List Nat := [201, 202, 203, 204, 205, 206]
theorem marks_lt : ∀ x ∈ marks, x < 256 := by decide
/-- The bytes and the marks behind them, in one block. -/
def Room (w : World) (g : Nat) (l : List Nat) : Prop := ∀ j, j < l.length + 6 → w.cell? ⟨g, j, none⟩ = some (.int .u8 ((l ++ marks).getD j 0 : Nat))
theorem Room.grown {w w' : World} {g : Nat} {l : List Nat} {row : Option Nat} (h : Room w g l) (hb : g < w.heap.size) (hg : w.grownBy w' row) (hne : some g ≠ row) : Room w' g l := fun j hj => by
  rw [World.cell?_of_block (hg.block g hb hne)]; exact h j hj
theorem Room.bytes {w : World} {g c : Nat} {l : List Nat} (h : Room w g l) (hl : ∀ x ∈ l, x < 256) (hb : g < w.heap.size) (hc : l.length ≤ c) : Bytes w (.slice (some ⟨g, 0, none⟩) l.length c) l :=
  ⟨hl, _, g, 0, c, rfl, hc, fun _ => ⟨rfl, hb⟩, fun j hj => by rw [Nat.zero_add, h j (by omega)]; simp [List.getD_eq_getElem?_getD, List.getElem?_append_left hj]⟩

set_option maxRecDepth 100000 in
set_option maxHeartbeats 400000 in
theorem numBytes_any (v : Value) (l : List Nat) (w : World) (hB : Bytes w v l) (h0 : Whole0 v) (hl : l.length ≤ 1099511620000) :
    Calls Tryd.prog 19 #[v] w fun e w' => ∃ g c, e = .returned (.slice (some ⟨g, 0, none⟩) l.length c) ∧ l.length + 6 ≤ c ∧ c ≤ maxLen ∧ w.heap.size ≤ g ∧ (∃ cur fr, w'.heap[g]? = some (.cells cur 5 fr)) ∧ w.grownBy w' none ∧ Room w' g l := by
  have HB := Lib.hid hB
  have H0 := Lib.hid h0
  obtain ⟨_, va, vb, vo, vc, rfl, _, _, _⟩ := hB
  obtain ⟨n, hn⟩ : ∃ n, n = l.length := ⟨_, rfl⟩
  have HN := Lib.hid hn
  rw [← hn] at HB H0 hl ⊢
  clear hn h0
  obtain ⟨iT, i1, i2, i3, i4⟩ := info_parts (P := Tryd.prog) (e := 5) (z := .int .u8 0) (size := 1) (bytes := 1) (by kernel_rfl)
  have Hi1 := Lib.hid i1
  have Hi2 := Lib.hid i2
  have Hi3 := Lib.hid i3
  have Hi4 := Lib.hid i4
  clear i1 i2 i3 i4
  have hme : (cellsL marks).toArray = #[Value.int IntKind.u8 201, Value.int IntKind.u8 202, Value.int IntKind.u8 203, Value.int IntKind.u8 204, Value.int IntKind.u8 205, Value.int IntKind.u8 206] := rfl
  go_enter Tryd.func19, Tryd.ntmps19
  go_wp2_with (first
    | (refine wpList_make_own _ (by rfl) (.const (.int .i64 0)) (.tmp 6) 24 (by rfl) w.heap.size 5 iT (.int .u8 0) 1 Tryd.underlying24 Hi1.out Hi2.out Hi3.out .i64 .i64 _ (n + 6) (by rfl) (by rfl) (by go_num) (by rw [Hi4.out]; omega) (by unfold maxLen; omega) (Nat.le_refl _) ?_; intro w1 ho1 hg1; have F1 := Lib.hid (FrW.mk (l := []) hg1 ho1); clear ho1 hg1)
    | (at_builtin; refine wpList_appB (by rfl) (.tmp 7) (.tmp 8) 24 (by rfl) w.heap.size 5 (.int .u8 0) 1 Tryd.underlying24 (by kernel_rfl) rfl (by decide) _ 0 [] (by rfl) F1.out.own _ l (by rfl) (HB.out.grown F1.out.grown) H0.out (by rw [← HN.out]; omega) F1.out.le ?_; intro v2 w2 ho2 hg2; have F2 := Lib.hid (F1.out.step (l' := l) ho2 hg2 rfl); clear ho2 hg2)
    | (at_builtin; rw [← hme]; refine wpList_appB (by rfl) (.tmp 9) (.tmp 10) 24 (by rfl) w.heap.size 5 (.int .u8 0) 1 Tryd.underlying24 (by kernel_rfl) rfl (by decide) v2 l.length (cellsL l) (by rfl) (F2.out.own.alloc _) (.slice (some ⟨w2.heap.size, 0, none⟩) 6 6) marks (by rfl) (Bytes.lit (alloc_at w2 _) marks_lt) (Whole0.some _ _ _) (by show l.length + 6 ≤ _; rw [← HN.out]; omega) (by have := F2.out.le; rw [alloc_size]; omega) ?_; intro v3 w3 ho3 hg3; have F3 := Lib.hid ((F2.out.alloc _).step (l' := l ++ marks) ho3 hg3 (cellsL_append _ _).symm); obtain ⟨a3, g, c, rfl, q1, q2, q3, q4⟩ := ownsRow_form ho3; have hq1 : n + 6 ≤ c := (by rw [HN.out]; exact q1); obtain ⟨rfl, q5, q6⟩ := q3 (by show 0 < l.length + 6; omega); have HQ4 := Lib.hid q4; have hblk : ∃ cur fr, w3.heap[g]? = some (.cells cur 5 fr) := (by rcases ho3.2 with ⟨e, _⟩ | ⟨g', cap', cur', e, _, hh, _⟩ <;> cases e; exact ⟨_, _, hh⟩); have hlm : l.length + marks.length = n + 6 := (by rw [HN.out]; rfl); rw [hlm]; clear ho3 hg3 q3 q4 hlm))
  go_ret
  refine ⟨g, c, rfl, hq1, q2, q5, hblk, F3.out.grown, fun j hj => ?_⟩
  rw [HQ4.out j (by show j < l.length + 6; exact hj)]
  rw [← cellsL_append]
  exact cellsL_at _ j (by rw [List.length_append]; exact hj)

set_option maxRecDepth 100000 in
set_option maxHeartbeats 400000 in
theorem kept_any (g n c : Nat) (u : Value) (l : List Nat) (w : World) (hn : l.length = n) (hc : n + 6 ≤ c) (hc2 : c ≤ 9223372036854775807) (hg : g < w.heap.size) (hR : Room w g l) (hB : Bytes w u l) :
    Calls Tryd.prog 21 #[.slice (some ⟨g, 0, none⟩) n c, u] w fun e w' => e = .returned (.bool true) ∧ ∃ m, w' = w.drewN m := by
  have hB2 := hR.bytes hB.lt hg (show l.length ≤ c by omega)
  rw [hn] at hB2
  have HR := Lib.hid hR
  have HN := Lib.hid hn
  have c1 : ∀ m, (convert 24 9 (.slice (some ⟨g, 0, none⟩) n c)).run Tryd.prog (w.drewN m) = .ok (.string (strOf l)) (w.drewN m) := fun m => conv_bytes (hB2.grown (grown_drewN (grown_refl _ _) m)) _ 5 _ Tryd.underlying24 Tryd.underlying5 Tryd.underlying9
  have c2 : ∀ m, (convert 24 9 u).run Tryd.prog (w.drewN m) = .ok (.string (strOf l)) (w.drewN m) := fun m => conv_bytes (hB.grown (grown_drewN (grown_refl _ _) m)) _ 5 _ Tryd.underlying24 Tryd.underlying5 Tryd.underlying9
  obtain ⟨_, ua, ub, uo, uc, rfl, _, _, _⟩ := hB
  rw [hn] at c2 ⊢
  generalize strOf l = sl at c1 c2
  have d1 : decide ((c : Int) < (n : Int) + 6) = false := decide_eq_false (by omega)
  clear hB2 hR hn
  go_enter Tryd.func21, Tryd.ntmps21
  go_wp2
  go_quiet (fail)
  go_wp2
  go_loopw [6] (fun i wr => ∃ k : Nat, k ≤ 6 ∧ i = .int .i64 k ∧ ∃ q, wr = w.drewN q) (fun i _ => 6 - (intOf i).toNat)
  case atStart => exact ⟨0, by omega, rfl, _, rfl⟩
  case round =>
    obtain ⟨k, hk, rfl, q, rfl⟩ := hrel
    by_cases hk6 : k < 6
    · have hcell : w.cell? ⟨g, n + k, none⟩ = some (.int .u8 (201 + (k : Int))) := by
        have := HR.out (n + k) (by rw [HN.out]; omega)
        rw [this]
        have e : (l ++ marks).getD (n + k) 0 = 201 + k := by
          rw [List.getD_eq_getElem?_getD, List.getElem?_append_right (by rw [HN.out]; omega), HN.out, show n + k - n = k by omega]
          match k, hk6 with
          | 0, _ => rfl
          | 1, _ => rfl
          | 2, _ => rfl
          | 3, _ => rfl
          | 4, _ => rfl
          | 5, _ => rfl
        rw [e]; simp
      have hkk : n + k < c := by omega
      clear d1 c1 c2
      go_wp2
      go_roundw
      case rel => exact ⟨k + 1, by omega, by go_num, q, rfl⟩
      case measure => simp [intOf]; omega
    · obtain rfl : k = 6 := by omega
      clear d1 c1 c2
      go_wp2
      go_ret
      exact ⟨rfl, q, rfl⟩
end Go.Proofs.YtbneggdfbkebcaaDoor
