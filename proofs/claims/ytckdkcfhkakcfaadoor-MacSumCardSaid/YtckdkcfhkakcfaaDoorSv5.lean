/- The last region of the law ShaSum: it draws its order, makes memory and calls. -/
import Derived.Test.YtckdkcfhkakcfaaDoorFlow3
import Derived.Test.YtckdkcfhkakcfaaDoorTx2
import Derived.Test.YtckdkcfhkakcfaaDoorSh11
namespace Go.Proofs.YtckdkcfhkakcfaaDoor
open Go.RowKit

/-- What the last region's operations hand back. -/
def sumVals (D : Array Value) (S : ByteArray) (v sl : Value) : List Value := [.agg D, .agg D, .bool true, .bool true, v, undef, .agg D, .agg D, .bool true, .bool true, .bool true, .agg D, .string S, sl, .string S, .bool true, .bool true]
def sumF (D : Array Value) (S : ByteArray) (v sl : Value) (j : Nat) (x : Value) (w : World) : Prop :=
  if j = 5 then ∃ g, x = .slice (some ⟨g, 0, none⟩) 1 1 ∧ g < w.heap.size ∧ w.cell? ⟨g, 0, none⟩ = some v else x = (sumVals D S v sl).getD j undef
theorem sumF_stays {D : Array Value} {S : ByteArray} {v sl : Value} {j : Nat} {x : Value} {w w' : World} (hg : w.grownBy w' none) (h : sumF D S v sl j x w) : sumF D S v sl j x w' := by
  unfold sumF at h ⊢
  split at h
  · rename_i hj
    rw [if_pos hj]
    obtain ⟨g, h1, h2, h3⟩ := h
    exact ⟨g, h1, Nat.lt_of_lt_of_le h2 hg.size, by rw [World.cell?_of_block (hg.block g h2 (by simp))]; exact h3⟩
  · rename_i hj
    rw [if_neg hj]
    exact h


theorem digN_lt (s : Sha.St) : ∀ n, ∀ x ∈ Sha.digN s n, x < 256
  | 0 => by simp [Sha.digN]
  | n + 1 => by
    intro x hx
    simp only [Sha.digN, List.mem_append, List.mem_singleton] at hx
    rcases hx with hx | rfl
    · exact digN_lt s n x hx
    · exact Nat.mod_lt _ (by decide)
theorem sum_lt (M : List Nat) : ∀ x ∈ Sha.sum M, x < 256 := digN_lt _ 32
def regionsOf : Code → List Code
  | .seq a b => regionsOf a ++ regionsOf b
  | .cond _ a b => regionsOf a ++ regionsOf b
  | .block _ c => regionsOf c
  | .loop c => regionsOf c
  | .scope c => regionsOf c
  | .region i o d => [.region i o d]
  | _ => []
/-- The region of that number. -/
def regionAt (c : Option Code) (k : Nat) : Code := (((c.map regionsOf).getD []).find? fun r => match r with | .region i _ _ => i == k | _ => false).getD .skip
noncomputable def sumRegion : Code := regionAt Tryd.f3.body 21

set_option linter.unusedVariables false
set_option maxRecDepth 100000 in
set_option maxHeartbeats 1000000 in
theorem sum_region (a : Act) (D : Array Value) (X : ByteArray) (a1 : Option Addr) (m1 c1 b5 b8 : Nat) (W w : World) (Q : Exit → Act → World → Prop) (hsz : a.tmps.size = 68)
    (h7 : a.eval (.tmp 7) = .pointer (some ⟨b5, 0, none⟩)) (h8 : a.eval (.tmp 8) = .pointer (some ⟨b8, 0, none⟩)) (h3 : a.eval (.tmp 3) = .slice a1 m1 c1)
    (hb5 : W.heap[b5]? = some (.cells D 27 (0, 0))) (hb8 : W.heap[b8]? = some (.cells D 27 (0, 0))) (hI : (Tryd.prog.info? 27).map (·.size) = some D.size)
    (hEQ : ∀ W, (binOp .eql 27 (.agg D) (.agg D)).run Tryd.prog W = .ok (.bool true) W)
    (h14 : ∀ x w, W.grownBy w none → sumF D X (.slice a1 m1 c1) (.slice (some ⟨b8, 0, none⟩) 32 32) 5 x w → Calls Tryd.prog 14 #[x] w fun e w' => ∃ v, e = .returned v ∧ w.grownBy w' none ∧ sumF D X (.slice a1 m1 c1) (.slice (some ⟨b8, 0, none⟩) 32 32) 6 v w')
    (h17 : ∀ w, Calls Tryd.prog 17 #[.agg D] w fun e w' => ∃ v, e = .returned v ∧ w.grownBy w' none ∧ sumF D X (.slice a1 m1 c1) (.slice (some ⟨b8, 0, none⟩) 32 32) 12 v w')
    (h18 : ∀ w, W.grownBy w none → Calls Tryd.prog 18 #[.slice (some ⟨b8, 0, none⟩) 32 32] w fun e w' => ∃ v, e = .returned v ∧ w.grownBy w' none ∧ sumF D X (.slice a1 m1 c1) (.slice (some ⟨b8, 0, none⟩) 32 32) 14 v w')
    (hw : W.grownBy { w with drawn := w.drawn + 1 } none)
    (hQ : ∀ a' w', a'.defers = a.defers → a'.tmps.getD 2 undef = .bool true → W.grownBy w' none → Q .normal a' w') : sumRegion.wp Tryd.prog Q a w := by
  have hcf14 : ∀ args w, (callFunc 14 args).run Tryd.prog w = .ok (.enter 14 args) w := fun _ _ => by simp [go_sem]
  have hcf17 : ∀ args w, (callFunc 17 args).run Tryd.prog w = .ok (.enter 17 args) w := fun _ _ => by simp [go_sem]
  have hcf18 : ∀ args w, (callFunc 18 args).run Tryd.prog w = .ok (.enter 18 args) w := fun _ _ => by simp [go_sem]
  have hb1 : ∀ (w : World), (Instr.buildSlice 22 1 #[(0, .slice a1 m1 c1)]).run Tryd.prog w = .ok (.slice (some ⟨w.heap.size, 0, none⟩) 1 1) (w.alloc (.cells #[.slice a1 m1 c1] 25)) := fun _ => by simp [go_sem]
  conv => arg 2; whnf
  refine wp_region_flow 17 (List.range' 51 17) (fun w' => W.grownBy w' none) (fun w w' => w.grownBy w' none) (sumF D X (.slice a1 m1 c1) (.slice (some ⟨b8, 0, none⟩) 32 32)) (by kernel_rfl) (by kernel_rfl) (fun _ _ h k => grown_trans k h) (fun _ _ _ _ h k => sumF_stays h k) hw ?_ ?_
  · refine ⟨?_, ?_, ?_, ?_, ?_, ?_, ?_, ?_, ?_, ?_, ?_, ?_, ?_, ?_, ?_, ?_, ?_, trivial⟩
    · exact flow_step (fun us w hC hd => wants_free rfl) (fun us w hC hd => ⟨_, w, load_val rfl ((fill_old (by rfl)).trans h7) ((hC.block _ (blk_lt hb5) (by simp)).trans hb5) Tryd.underlying27 rfl hI, grown_refl _ _, rfl⟩)
    · exact flow_step (fun us w hC hd => wants_free rfl) (fun us w hC hd => ⟨_, w, load_val rfl ((fill_old (by rfl)).trans h8) ((hC.block _ (blk_lt hb8) (by simp)).trans hb8) Tryd.underlying27 rfl hI, grown_refl _ _, rfl⟩)
    · exact flow_step (fun us w hC hd => wants_free rfl) (fun us w hC hd => ⟨_, w, eqlagg_val rfl ((fill_tmp (by rfl) (by rw [hsz]; decide)).trans (hd 0 (by decide))) ((fill_tmp (by rfl) (by rw [hsz]; decide)).trans (hd 1 (by decide))) (by kernel_rfl) (hEQ w), grown_refl _ _, rfl⟩)
    · exact flow_step (fun us w hC hd => wants_free rfl) (fun us w hC hd => ⟨_, w, move_val rfl ((fill_tmp (by rfl) (by rw [hsz]; decide)).trans (hd 2 (by decide))), grown_refl _ _, rfl⟩)
    · exact flow_step (fun us w hC hd => wants_on (d := 54) (b := true) rfl rfl (by rfl) (by rw [hsz]; decide) (hd 3 (by decide))) (fun us w hC hd => ⟨_, w, move_val rfl ((fill_old (by rfl)).trans h3), grown_refl _ _, rfl⟩)
    · exact flow_step (fun us w hC hd => wants_on (d := 54) (b := true) rfl rfl (by rfl) (by rw [hsz]; decide) (hd 3 (by decide))) (fun us w hC hd => ⟨_, _, build1_val rfl ((fill_tmp (by rfl) (by rw [hsz]; decide)).trans (hd 4 (by decide))) (hb1 _), World.grownBy_alloc _ _ _, ⟨_, rfl, by rw [alloc_size]; omega, cell_blk (alloc_at _ _) 0 rfl⟩⟩)
    · exact flow_call 14 (fun us => #[us 56]) (fun us w hC hd => wants_on (d := 54) (b := true) rfl rfl (by rfl) (by rw [hsz]; decide) (hd 3 (by decide))) (fun us w => by rw [call_enter rfl hcf14, List.map_toArray, List.map_cons, List.map_nil, fill_tmp (by rfl) (by rw [hsz]; decide)]) (fun us w hC hd => h14 (us 56) w hC (hd 5 (by decide)))
    · exact flow_step (fun us w hC hd => wants_on (d := 54) (b := true) rfl rfl (by rfl) (by rw [hsz]; decide) (hd 3 (by decide))) (fun us w hC hd => ⟨_, w, load_val rfl ((fill_old (by rfl)).trans h8) ((hC.block _ (blk_lt hb8) (by simp)).trans hb8) Tryd.underlying27 rfl hI, grown_refl _ _, rfl⟩)
    · exact flow_step (fun us w hC hd => wants_on (d := 54) (b := true) rfl rfl (by rfl) (by rw [hsz]; decide) (hd 3 (by decide))) (fun us w hC hd => ⟨_, w, eqlagg_val rfl ((fill_tmp (by rfl) (by rw [hsz]; decide)).trans (hd 6 (by decide))) ((fill_tmp (by rfl) (by rw [hsz]; decide)).trans (hd 7 (by decide))) (by kernel_rfl) (hEQ w), grown_refl _ _, rfl⟩)
    · exact flow_step (fun us w hC hd => wants_free rfl) (fun us w hC hd => ⟨_, w, pick_true rfl ((fill_tmp (by rfl) (by rw [hsz]; decide)).trans (hd 3 (by decide))) ((fill_tmp (by rfl) (by rw [hsz]; decide)).trans (hd 8 (by decide))), grown_refl _ _, rfl⟩)
    · exact flow_step (fun us w hC hd => wants_free rfl) (fun us w hC hd => ⟨_, w, move_val rfl ((fill_tmp (by rfl) (by rw [hsz]; decide)).trans (hd 9 (by decide))), grown_refl _ _, rfl⟩)
    · exact flow_step (fun us w hC hd => wants_on (d := 61) (b := true) rfl rfl (by rfl) (by rw [hsz]; decide) (hd 10 (by decide))) (fun us w hC hd => ⟨_, w, load_val rfl ((fill_old (by rfl)).trans h7) ((hC.block _ (blk_lt hb5) (by simp)).trans hb5) Tryd.underlying27 rfl hI, grown_refl _ _, rfl⟩)
    · exact flow_call 17 (fun us => #[us 62]) (fun us w hC hd => wants_on (d := 61) (b := true) rfl rfl (by rfl) (by rw [hsz]; decide) (hd 10 (by decide))) (fun us w => by rw [call_enter rfl hcf17, List.map_toArray, List.map_cons, List.map_nil, fill_tmp (by rfl) (by rw [hsz]; decide)]) (fun us w hC hd => by rw [show us 62 = .agg D from hd 11 (by decide)]; exact h17 w)
    · exact flow_step (fun us w hC hd => wants_on (d := 61) (b := true) rfl rfl (by rfl) (by rw [hsz]; decide) (hd 10 (by decide))) (fun us w hC hd => ⟨_, w, slicearr_val rfl ((fill_old (by rfl)).trans h8) Tryd.underlying27 (fun _ => by kernel_rfl), grown_refl _ _, rfl⟩)
    · exact flow_call 18 (fun us => #[us 64]) (fun us w hC hd => wants_on (d := 61) (b := true) rfl rfl (by rfl) (by rw [hsz]; decide) (hd 10 (by decide))) (fun us w => by rw [call_enter rfl hcf18, List.map_toArray, List.map_cons, List.map_nil, fill_tmp (by rfl) (by rw [hsz]; decide)]) (fun us w hC hd => by rw [show us 64 = .slice (some ⟨b8, 0, none⟩) 32 32 from hd 13 (by decide)]; exact h18 w hC)
    · exact flow_step (fun us w hC hd => wants_on (d := 61) (b := true) rfl rfl (by rfl) (by rw [hsz]; decide) (hd 10 (by decide))) (fun us w hC hd => ⟨_, w, eqlstr_val rfl ((fill_tmp (by rfl) (by rw [hsz]; decide)).trans (hd 12 (by decide))) ((fill_tmp (by rfl) (by rw [hsz]; decide)).trans (hd 14 (by decide))), grown_refl _ _, rfl⟩)
    · exact flow_step (fun us w hC hd => wants_free rfl) (fun us w hC hd => ⟨_, w, pick_true rfl ((fill_tmp (by rfl) (by rw [hsz]; decide)).trans (hd 10 (by decide))) ((fill_tmp (by rfl) (by rw [hsz]; decide)).trans (hd 15 (by decide))), grown_refl _ _, rfl⟩)
  · intro us w' hC hF
    have h67 : us 67 = .bool true := hF 16 (by decide)
    have he : (fill a (List.range' 51 17) us).eval (.tmp 67) = .bool true := (fill_tmp (by rfl) (by rw [hsz]; decide)).trans h67
    exact wpList_last rfl (assign_val rfl he) (hQ _ _ rfl (put_get (by rw [fill_size, hsz]; decide)) hC)
end Go.Proofs.YtckdkcfhkakcfaaDoor
