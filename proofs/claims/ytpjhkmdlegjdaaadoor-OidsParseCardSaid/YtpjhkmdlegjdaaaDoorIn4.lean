/- The walks of bullanum's Ints and KeptInts. -/
import Derived.Test.YtpjhkmdlegjdaaaDoorIn2
namespace Go.Proofs.YtpjhkmdlegjdaaaDoor
open Go.RowKit
set_option linter.unusedVariables false

def marksI : List Int := [-91, -92, -93, -94]
/-- The ints and the marks behind them, in one block. -/
def RoomI (w : World) (g : Nat) (l : List Int) : Prop := ∀ j, j < l.length + 4 → w.cell? ⟨g, j, none⟩ = some (.int .i64 ((l ++ marksI).getD j 0))
theorem RoomI.grown {w w' : World} {g : Nat} {l : List Int} (h : RoomI w g l) (hb : g < w.heap.size) (hg : w.grownBy w' none) : RoomI w' g l := fun j hj => by
  rw [World.cell?_of_block (hg.block g hb (by simp))]; exact h j hj
theorem RoomI.ints {w : World} {g c : Nat} {l : List Int} (h : RoomI w g l) (hb : g < w.heap.size) (hc : l.length ≤ c) : Ints w (.slice (some ⟨g, 0, none⟩) l.length c) l :=
  ⟨_, g, 0, c, rfl, hc, fun _ => ⟨rfl, hb⟩, fun j hj => by rw [Nat.zero_add, h j (by omega)]; simp [List.getD_eq_getElem?_getD, List.getElem?_append_left hj]⟩

set_option maxRecDepth 100000 in
set_option maxHeartbeats 400000 in
theorem numInts_any (v : Value) (l : List Int) (w : World) (hB : Ints w v l) (h0 : Whole0 v) (hl : l.length ≤ 1099511620000) :
    Calls Tryd.prog 14 #[v] w fun e w' => ∃ g c, e = .returned (.slice (some ⟨g, 0, none⟩) l.length c) ∧ l.length + 4 ≤ c ∧ c ≤ maxLen ∧ w.heap.size ≤ g ∧ (∃ cur fr, w'.heap[g]? = some (.cells cur 3 fr)) ∧ w.grownBy w' none ∧ RoomI w' g l := by
  have HB := Lib.hid hB
  have H0 := Lib.hid h0
  obtain ⟨va, vb, vo, vc, rfl, _, _, _⟩ := hB
  obtain ⟨n, hn⟩ : ∃ n, n = l.length := ⟨_, rfl⟩
  have HN := Lib.hid hn
  rw [← hn] at HB H0 hl ⊢
  clear hn h0
  obtain ⟨iT, i1, i2, i3, i4⟩ := info_parts (P := Tryd.prog) (e := 3) (z := .int .i64 0) (size := 1) (bytes := 8) (by kernel_rfl)
  have Hi1 := Lib.hid i1
  have Hi2 := Lib.hid i2
  have Hi3 := Lib.hid i3
  have Hi4 := Lib.hid i4
  clear i1 i2 i3 i4
  have hme : (cellsI marksI).toArray = #[Value.int IntKind.i64 (-91), Value.int IntKind.i64 (-92), Value.int IntKind.i64 (-93), Value.int IntKind.i64 (-94)] := rfl
  go_enter Tryd.func14, Tryd.ntmps14
  go_wp2_with (first
    | (refine wpList_make_own _ (by rfl) (.const (.int .i64 0)) (.tmp 6) 23 (by rfl) w.heap.size 3 iT (.int .i64 0) 1 Tryd.underlying23 Hi1.out Hi2.out Hi3.out .i64 .i64 _ (n + 4) (by rfl) (by rfl) (by go_num) (by rw [Hi4.out]; omega) (by unfold maxLen; omega) (Nat.le_refl _) ?_; intro w1 ho1 hg1; have F1 := Lib.hid (FrI.mk (l := []) hg1 ho1); clear ho1 hg1)
    | (at_builtin; refine wpList_appI (by rfl) (.tmp 7) (.tmp 8) 23 (by rfl) w.heap.size 3 (.int .i64 0) 8 Tryd.underlying23 (by kernel_rfl) rfl (by decide) _ 0 [] (by rfl) F1.out.own _ l (by rfl) (HB.out.grown F1.out.grown) H0.out (by rw [← HN.out]; omega) F1.out.le ?_; intro v2 w2 ho2 hg2; have F2 := Lib.hid (F1.out.step (l' := l) ho2 hg2 rfl); clear ho2 hg2)
    | (at_builtin; rw [← hme]; refine wpList_appI (by rfl) (.tmp 9) (.tmp 10) 23 (by rfl) w.heap.size 3 (.int .i64 0) 8 Tryd.underlying23 (by kernel_rfl) rfl (by decide) v2 l.length (cellsI l) (by rfl) (F2.out.own.alloc _) (.slice (some ⟨w2.heap.size, 0, none⟩) 4 4) marksI (by rfl) (Ints.lit (alloc_at w2 _)) (Whole0.some _ _ _) (by show l.length + 4 ≤ _; rw [← HN.out]; omega) (by have := F2.out.le; rw [alloc_size]; omega) ?_; intro v3 w3 ho3 hg3; have F3 := Lib.hid ((F2.out.alloc _).step (l' := l ++ marksI) ho3 hg3 (cellsI_append _ _).symm); obtain ⟨a3, g, c, rfl, q1, q2, q3, q4⟩ := ownsRow_form ho3; have hq1 : n + 4 ≤ c := (by rw [HN.out]; exact q1); obtain ⟨rfl, q5, q6⟩ := q3 (by show 0 < l.length + 4; omega); have HQ4 := Lib.hid q4; have hblk : ∃ cur fr, w3.heap[g]? = some (.cells cur 3 fr) := (by rcases ho3.2 with ⟨e, _⟩ | ⟨g', cap', cur', e, _, hh, _⟩ <;> cases e; exact ⟨_, _, hh⟩); have hlm : l.length + marksI.length = n + 4 := (by rw [HN.out]; rfl); rw [hlm]; clear ho3 hg3 q3 q4 hlm))
  go_ret
  refine ⟨g, c, rfl, hq1, q2, q5, hblk, F3.out.grown, fun j hj => ?_⟩
  rw [HQ4.out j (by show j < l.length + 4; exact hj)]
  rw [← cellsI_append]
  exact cellsI_at _ j (by rw [List.length_append]; exact hj)
end Go.Proofs.YtpjhkmdlegjdaaaDoor
namespace Go.Proofs.YtpjhkmdlegjdaaaDoor
open Go.RowKit

set_option maxRecDepth 100000 in
set_option maxHeartbeats 400000 in
theorem keptI_any (g n c : Nat) (u : Value) (l : List Int) (w : World) (hn : l.length = n) (hc : n + 4 ≤ c) (hc2 : c ≤ 9223372036854775807) (hn2 : n ≤ 1099511620000) (hg : g < w.heap.size) (hR : RoomI w g l) (hB : Ints w u l) :
    Calls Tryd.prog 16 #[.slice (some ⟨g, 0, none⟩) n c, u] w fun e w' => e = .returned (.bool true) ∧ ∃ m, w' = w.drewN m := by
  have HS : Hid (∀ m, Calls Tryd.prog 11 #[.slice (some ⟨g, 0, none⟩) n c, u] (w.drewN m) fun e w' => e = .returned (.bool true) ∧ ∃ q, w' = (w.drewN m).drewN q) := Lib.hid (fun m => by
    have h1 := (hR.ints hg (show l.length ≤ c by omega)).grown (grown_drewN (grown_refl w none) m)
    rw [hn] at h1
    have := sameI_any _ u l l (w.drewN m) h1 (hB.grown (grown_drewN (grown_refl _ _) m)) (by omega) (by omega)
    rw [decide_eq_true rfl] at this
    exact this)
  have HR := Lib.hid hR
  have HN := Lib.hid hn
  obtain ⟨ua, ub, uo, uc, rfl, _, _, _⟩ := hB
  rw [hn] at HS ⊢
  have d1 : decide ((c : Int) < (n : Int) + 4) = false := decide_eq_false (by omega)
  clear hR hn
  go_enter Tryd.func16, Tryd.ntmps16
  go_wp2_with (go_at_call 11; refine (HS.out 0).mono ?_; rintro e w1 ⟨rfl, q0, hw1⟩; rw [hw1]; clear hw1)
  go_loopw [6] (fun i wr => ∃ k : Nat, k ≤ 4 ∧ i = .int .i64 k ∧ ∃ q, wr = w.drewN q) (fun i _ => 4 - (intOf i).toNat)
  case atStart => exact ⟨0, by omega, rfl, _, by first | rfl | (simp [World.drewN])⟩
  case round =>
    obtain ⟨k, hk, rfl, q, rfl⟩ := hrel
    by_cases hk6 : k < 4
    · have hcell : w.cell? ⟨g, n + k, none⟩ = some (.int .i64 (-91 - (k : Int))) := by
        have := HR.out (n + k) (by rw [HN.out]; omega)
        rw [this]
        have e : (l ++ marksI).getD (n + k) 0 = -91 - (k : Int) := by
          rw [List.getD_eq_getElem?_getD, List.getElem?_append_right (by rw [HN.out]; omega), HN.out, show n + k - n = k by omega]
          match k, hk6 with
          | 0, _ => rfl
          | 1, _ => rfl
          | 2, _ => rfl
          | 3, _ => rfl
        rw [e]
      have hkk : n + k < c := by omega
      clear d1
      go_wp2
      go_roundw
      case rel => exact ⟨k + 1, by omega, by go_num, q, rfl⟩
      case measure => simp [intOf]; omega
    · obtain rfl : k = 4 := by omega
      clear d1
      go_wp2
      go_ret
      exact ⟨rfl, q, rfl⟩
end Go.Proofs.YtpjhkmdlegjdaaaDoor
