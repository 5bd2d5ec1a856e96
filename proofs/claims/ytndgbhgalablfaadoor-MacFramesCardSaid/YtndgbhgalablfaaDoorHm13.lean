/- mac.Tagged of a word and parts that are right; the document's Tagged of the word id with no parts; both IDs. mac.Tagged where Frame gives an error. -/
import Derived.Test.YtndgbhgalablfaaDoorHm8
namespace Go.Proofs.YtndgbhgalablfaaDoor
open Go.RowKit

theorem results_row_tmp {P : Program} {fn : Func} {p u : Tmp} {ty : TypeId} (h : fn.results = #[.cell p ty, .tmp u]) (tmps : Array Value) (w : World) (g : Nat) (t : TypeId) (cs : Array Value) (fr : Nat × Nat) (d : TypeDesc) (v : Value)
    (hp : tmps.getD p undef = .pointer (some ⟨g, 0, none⟩)) (hg : w.heap[g]? = some (.cells cs t fr)) (hu : P.underlying ty = some d) (hd : (match d with | .struct _ | .array _ _ => true | _ => false) = true) (hi : (P.info? ty).map (·.size) = some cs.size)
    (hv : tmps.getD u undef = v) : (results fn tmps).run P w = .ok (.tuple #[.agg cs, v]) w := by
  rw [results_cell_tmp h, hp, hv]
  simp [asAddr, Sem.run_pure, Result.andThen, run_loadVar_row w g t ty cs fr d hg hu hd hi]

set_option maxRecDepth 100000 in
set_option maxHeartbeats 400000 in
theorem tagged_ok (vk : Value) (k : List Nat) (s : ByteArray) (vp : Value) (F : List Nat) (w : World) (hK : Bytes w vk k) (hk : k.length < 1152921504606846000) (hF : F.length < 1152921504606840000) (hFlt : ∀ x ∈ F, x < 256) (hL : Laid w)
    (hFr : ∀ w', w.grownBy w' none → Calls Tryd.prog 10 #[.string s, vp] w' fun e w'' => ∃ v, e = .returned (.tuple #[v, .nilIface]) ∧ FrW w' w'' v F) :
    Calls Tryd.prog 12 #[vk, .string s, vp] w fun e w' => e = .returned (.tuple #[.agg (bytesV (Hm.hmac k F)), .nilIface]) ∧ w.grownBy w' none := by
  have hz32 := zeros32_at w
  obtain ⟨w0, hw0⟩ : ∃ w0, w0 = w.alloc (.cells zeros32 32) := ⟨_, rfl⟩
  have B0 : Hid (w0.heap[w.heap.size]? = some (.cells zeros32 32 (0, 0))) := Lib.hid (by rw [hw0]; exact alloc_at _ _)
  have G0 : Hid (w.grownBy w0 none) := Lib.hid (by rw [hw0]; exact World.grownBy_alloc _ _ _)
  have HW0 := Lib.hid hw0
  obtain ⟨D, hD⟩ : ∃ D, D = bytesV (Hm.hmac k F) := ⟨_, rfl⟩
  have hDl : D.size = 32 := by rw [hD, bytesV_size, Hm.hmac, Sha.sum_len]
  have hDo : D.all (·.oneCell') = true := by rw [hD]; exact bytesV_one _
  have HM : Hid (∀ (w' : World) (g : Nat) (x : Value), w.grownBy w' none → w'.heap[g]? = some (.cells #[x] 22 (0, 0)) → Bytes w' x F → Calls Tryd.prog 35 #[vk, .slice (some ⟨g, 0, none⟩) 1 1] w' fun e w'' => e = .returned (.agg D) ∧ w'.grownBy w'' none) := Lib.hid (fun w' g x hg hb hx => by
    have ef : [F].flatten = F := by simp
    have := macSum_any vk k [F] (some ⟨g, 0, none⟩) g 0 1 1 rfl w' (hK.grown hg) hk (fun _ => ⟨rfl, blk_lt hb⟩) (fun i hi => by
      match i, hi with
      | 0, _ => exact ⟨x, cell_blk hb 0 rfl, hx⟩) (by rw [ef]; exact hF) (by decide) (hL.grown hg (by simp) (by simp))
    rw [ef] at this
    rw [hD]
    exact this)
  rw [← hD]
  have HI : Hid ((Tryd.prog.info? 32).map (·.size) = some D.size) := by rw [hDl]; exact Lib.hid (by kernel_rfl)
  have HI4 : Hid (zeros32.size = D.size) := by rw [hDl]; exact Lib.hid rfl
  have HO := Lib.hid hDo
  have HFr := Lib.hid hFr
  have HFl := Lib.hid hFlt
  clear hw0 hD hDl hDo hK hk hF hFlt hL hFr
  go_enter Tryd.func12, Tryd.ntmps12
  go_wp2_with (first
    | (go_at_call 10; rw [← HW0.out]; refine (HFr.out w0 G0.out).mono ?_; rintro e w1 ⟨v1, rfl, hF1⟩; obtain ⟨a1, g1, c1, rfl, _, _, _, _⟩ := ownsRow_form hF1.own; have hB1 := Bytes.own hF1.own HFl.out; generalize F.length = m1 at *; have F1 := Lib.hid hB1; have G1 := Lib.hid hF1.grown; clear hF1 hB1)
    | (go_at_call 35; refine (HM.out (w1.alloc (.cells #[.slice a1 m1 c1] 22)) w1.heap.size _ (grown_alloc (grown_trans G0.out G1.out) _) (alloc_at w1 _) (F1.out.grown (World.grownBy_alloc _ _ _))).mono ?_; rintro e w2 ⟨rfl, hg2⟩; have G2 := Lib.hid (grown_trans G1.out (grown_trans (World.grownBy_alloc _ _ _) hg2)); have B2 := Lib.hid ((G2.out.block _ (blk_lt B0.out) (by simp)).trans B0.out); clear hg2)
    | (refine wpList_store_row (by rfl) 32 (.tmp 6) (.tmp 23) (by rfl) w.heap.size D (by rfl) (by rfl) _ _ B2.out HI.out HI4.out HO.out ?_))
  refine bodyPost_ret (v := .tuple #[.agg D, .nilIface]) ?_ rfl ⟨rfl, grown_setRow (grown_trans G0.out G2.out) (Nat.le_refl _) _⟩
  exact results_row_tmp Tryd.results12 _ _ w.heap.size _ _ (0, 0) _ _ rfl (setRow_heap _ _ _ D _ _ B2.out) Tryd.underlying32 rfl HI.out rfl

end Go.Proofs.YtndgbhgalablfaaDoor
namespace Go.Proofs.YtndgbhgalablfaaDoor
open Go.RowKit

set_option maxRecDepth 100000 in
set_option maxHeartbeats 400000 in
theorem tagged_err (vk : Value) (s : ByteArray) (vp : Value) (ty : TypeId) (u : Value) (w : World)
    (hFr : ∀ w', w.grownBy w' none → Calls Tryd.prog 10 #[.string s, vp] w' fun e w'' => e = .returned (.tuple #[.slice none 0 0, .iface ty u]) ∧ w'.grownBy w'' none) :
    Calls Tryd.prog 12 #[vk, .string s, vp] w fun e w' => e = .returned (.tuple #[.agg zeros32, .iface ty u]) ∧ w.grownBy w' none := by
  have hz32 := zeros32_at w
  obtain ⟨w0, hw0⟩ : ∃ w0, w0 = w.alloc (.cells zeros32 32) := ⟨_, rfl⟩
  have B0 : Hid (w0.heap[w.heap.size]? = some (.cells zeros32 32 (0, 0))) := Lib.hid (by rw [hw0]; exact alloc_at _ _)
  have G0 : Hid (w.grownBy w0 none) := Lib.hid (by rw [hw0]; exact World.grownBy_alloc _ _ _)
  have HW0 := Lib.hid hw0
  have HI : Hid ((Tryd.prog.info? 32).map (·.size) = some zeros32.size) := Lib.hid (by kernel_rfl)
  have HO : Hid (zeros32.all (·.oneCell') = true) := Lib.hid (bytesV_one _)
  have HFr := Lib.hid hFr
  clear hw0 hFr
  go_enter Tryd.func12, Tryd.ntmps12
  go_wp2_with (first
    | (go_at_call 10; rw [← HW0.out]; refine (HFr.out w0 G0.out).mono ?_; rintro e w1 ⟨rfl, hg1⟩; have G1 := Lib.hid hg1; have B1 := Lib.hid ((hg1.block _ (blk_lt B0.out) (by simp)).trans B0.out); clear hg1)
    | (refine wpList_store_row (by rfl) 32 (.tmp 6) (.tmp 18) (by rfl) w.heap.size zeros32 (by rfl) (by rfl) _ _ B1.out HI.out rfl HO.out ?_))
  refine bodyPost_ret (v := .tuple #[.agg zeros32, .iface ty u]) ?_ rfl ⟨rfl, grown_setRow (grown_trans G0.out G1.out) (Nat.le_refl _) _⟩
  exact results_row_tmp Tryd.results12 _ _ w.heap.size _ _ (0, 0) _ _ rfl (setRow_heap _ _ _ zeros32 _ _ B1.out) Tryd.underlying32 rfl HI.out rfl
end Go.Proofs.YtndgbhgalablfaaDoor
