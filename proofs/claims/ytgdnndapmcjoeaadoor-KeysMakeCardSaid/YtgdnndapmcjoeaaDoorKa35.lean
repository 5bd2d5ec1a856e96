import Derived.Test.YtgdnndapmcjoeaaDoorKa29
import Derived.Test.YtgdnndapmcjoeaaDoorKa34
namespace Go.Proofs.YtgdnndapmcjoeaaDoor
open Go.RowKit
theorem results_row_tmp {P : Program} {fn : Func} {p u : Tmp} {ty : TypeId} (h : fn.results = #[.cell p ty, .tmp u]) (tmps : Array Value) (w : World) (g : Nat) (t : TypeId) (cs : Array Value) (fr : Nat × Nat) (d : TypeDesc) (v : Value)
    (hp : tmps.getD p undef = .pointer (some ⟨g, 0, none⟩)) (hg : w.heap[g]? = some (.cells cs t fr)) (hu : P.underlying ty = some d) (hd : (match d with | .struct _ | .array _ _ => true | _ => false) = true) (hi : (P.info? ty).map (·.size) = some cs.size)
    (hv : tmps.getD u undef = v) : (results fn tmps).run P w = .ok (.tuple #[.agg cs, v]) w := by
  rw [results_cell_tmp h, hp, hv]
  simp [asAddr, Sem.run_pure, Result.andThen, run_loadVar_row w g t ty cs fr d hg hu hd hi]
set_option maxRecDepth 100000 in
set_option maxHeartbeats 400000 in
theorem tagged_ok (vk : Value) (k : List Nat) (s : ByteArray) (vp : Value) (F : List Nat) (w : World) (hK : Bytes w vk k) (hk : k.length < 1152921504606846000) (hF : F.length < 1152921504606840000) (hFlt : ∀ x ∈ F, x < 256) (hL : Laid w)
    (hFr : ∀ w', w.grownBy w' none → Calls Tryd.prog 42 #[.string s, vp] w' fun e w'' => ∃ v, e = .returned (.tuple #[v, .nilIface]) ∧ FrW w' w'' v F) :
    Calls Tryd.prog 29 #[vk, .string s, vp] w fun e w' => e = .returned (.tuple #[.agg (bytesV (Hm.hmac k F)), .nilIface]) ∧ w.grownBy w' none := by
  have hz32 := zeros32_at w
  obtain ⟨w0, hw0⟩ : ∃ w0, w0 = w.alloc (.cells zeros32 64) := ⟨_, rfl⟩
  have B0 : Hid (w0.heap[w.heap.size]? = some (.cells zeros32 64 (0, 0))) := Lib.hid (by rw [hw0]; exact alloc_at _ _)
  have G0 : Hid (w.grownBy w0 none) := Lib.hid (by rw [hw0]; exact World.grownBy_alloc _ _ _)
  have HW0 := Lib.hid hw0
  obtain ⟨D, hD⟩ : ∃ D, D = bytesV (Hm.hmac k F) := ⟨_, rfl⟩
  have hDl : D.size = 32 := by rw [hD, bytesV_size, Hm.hmac, Sha.sum_len]
  have hDo : D.all (·.oneCell') = true := by rw [hD]; exact bytesV_one _
  have HM : Hid (∀ (w' : World) (g : Nat) (x : Value), w.grownBy w' none → w'.heap[g]? = some (.cells #[x] 22 (0, 0)) → Bytes w' x F → Calls Tryd.prog 43 #[vk, .slice (some ⟨g, 0, none⟩) 1 1] w' fun e w'' => e = .returned (.agg D) ∧ w'.grownBy w'' none) := Lib.hid (fun w' g x hg hb hx => by
    have ef : [F].flatten = F := by simp
    have := macSum_any vk k [F] (some ⟨g, 0, none⟩) g 0 1 1 rfl w' (hK.grown hg) hk (fun _ => ⟨rfl, blk_lt hb⟩) (fun i hi => by
      match i, hi with
      | 0, _ => exact ⟨x, cell_blk hb 0 rfl, hx⟩) (by rw [ef]; exact hF) (by decide) (hL.grown hg (by simp) (by simp))
    rw [ef] at this
    rw [hD]
    exact this)
  rw [← hD]
  have HI : Hid ((Tryd.prog.info? 64).map (·.size) = some D.size) := by rw [hDl]; exact Lib.hid (by kernel_rfl)
  have HI4 : Hid (zeros32.size = D.size) := by rw [hDl]; exact Lib.hid rfl
  have HO := Lib.hid hDo
  have HFr := Lib.hid hFr
  have HFl := Lib.hid hFlt
  clear hw0 hD hDl hDo hK hk hF hFlt hL hFr
  go_enter Tryd.func29, Tryd.ntmps29
  go_wp2_with (first
    | (go_at_call 42; rw [← HW0.out]; refine (HFr.out w0 G0.out).mono ?_; rintro e w1 ⟨v1, rfl, hF1⟩; obtain ⟨a1, g1, c1, rfl, _, _, _, _⟩ := ownsRow_form hF1.own; have hB1 := Bytes.own hF1.own HFl.out; generalize F.length = m1 at *; have F1 := Lib.hid hB1; have G1 := Lib.hid hF1.grown; clear hF1 hB1)
    | (go_at_call 43; refine (HM.out (w1.alloc (.cells #[.slice a1 m1 c1] 22)) w1.heap.size _ (grown_alloc (grown_trans G0.out G1.out) _) (alloc_at w1 _) (F1.out.grown (World.grownBy_alloc _ _ _))).mono ?_; rintro e w2 ⟨rfl, hg2⟩; have G2 := Lib.hid (grown_trans G1.out (grown_trans (World.grownBy_alloc _ _ _) hg2)); have B2 := Lib.hid ((G2.out.block _ (blk_lt B0.out) (by simp)).trans B0.out); clear hg2)
    | (refine wpList_store_row (by rfl) 64 (.tmp 6) (.tmp 23) (by rfl) w.heap.size D (by rfl) (by rfl) _ _ B2.out HI.out HI4.out HO.out ?_))
  refine bodyPost_ret (v := .tuple #[.agg D, .nilIface]) ?_ rfl ⟨rfl, grown_setRow (grown_trans G0.out G2.out) (Nat.le_refl _) _⟩
  exact results_row_tmp Tryd.results29 _ _ w.heap.size _ _ (0, 0) _ _ rfl (setRow_heap _ _ _ D _ _ B2.out) Tryd.underlying64 rfl HI.out rfl
end Go.Proofs.YtgdnndapmcjoeaaDoor
namespace Go.Proofs.YtgdnndapmcjoeaaDoor
open Go.RowKit
set_option maxRecDepth 100000 in
set_option maxHeartbeats 400000 in
theorem tagged_err (vk : Value) (s : ByteArray) (vp : Value) (ty : TypeId) (u : Value) (w : World)
    (hFr : ∀ w', w.grownBy w' none → Calls Tryd.prog 42 #[.string s, vp] w' fun e w'' => e = .returned (.tuple #[.slice none 0 0, .iface ty u]) ∧ w'.grownBy w'' none) :
    Calls Tryd.prog 29 #[vk, .string s, vp] w fun e w' => e = .returned (.tuple #[.agg zeros32, .iface ty u]) ∧ w.grownBy w' none := by
  have hz32 := zeros32_at w
  obtain ⟨w0, hw0⟩ : ∃ w0, w0 = w.alloc (.cells zeros32 64) := ⟨_, rfl⟩
  have B0 : Hid (w0.heap[w.heap.size]? = some (.cells zeros32 64 (0, 0))) := Lib.hid (by rw [hw0]; exact alloc_at _ _)
  have G0 : Hid (w.grownBy w0 none) := Lib.hid (by rw [hw0]; exact World.grownBy_alloc _ _ _)
  have HW0 := Lib.hid hw0
  have HI : Hid ((Tryd.prog.info? 64).map (·.size) = some zeros32.size) := Lib.hid (by kernel_rfl)
  have HO : Hid (zeros32.all (·.oneCell') = true) := Lib.hid (bytesV_one _)
  have HFr := Lib.hid hFr
  clear hw0 hFr
  go_enter Tryd.func29, Tryd.ntmps29
  go_wp2_with (first
    | (go_at_call 42; rw [← HW0.out]; refine (HFr.out w0 G0.out).mono ?_; rintro e w1 ⟨rfl, hg1⟩; have G1 := Lib.hid hg1; have B1 := Lib.hid ((hg1.block _ (blk_lt B0.out) (by simp)).trans B0.out); clear hg1)
    | (refine wpList_store_row (by rfl) 64 (.tmp 6) (.tmp 18) (by rfl) w.heap.size zeros32 (by rfl) (by rfl) _ _ B1.out HI.out rfl HO.out ?_))
  refine bodyPost_ret (v := .tuple #[.agg zeros32, .iface ty u]) ?_ rfl ⟨rfl, grown_setRow (grown_trans G0.out G1.out) (Nat.le_refl _) _⟩
  exact results_row_tmp Tryd.results29 _ _ w.heap.size _ _ (0, 0) _ _ rfl (setRow_heap _ _ _ zeros32 _ _ B1.out) Tryd.underlying64 rfl HI.out rfl
end Go.Proofs.YtgdnndapmcjoeaaDoor
namespace Go.Proofs.YtgdnndapmcjoeaaDoor
open Go.RowKit
/-- The number's text. -/
def idText (k : List Nat) : ByteArray := strOf (hexL ((Hm.hmac k [2, 105, 100, 0]).take 16))
theorem id_word : fErr (strL ⟨#[105, 100]⟩) [] = 0 := by decide
theorem id_frame : frameOf (strL ⟨#[105, 100]⟩) [] = [2, 105, 100, 0] := by decide
theorem id_frames (w : World) (eT eL : Value) (hE : Errs w eT eL) : Calls Tryd.prog 42 #[.string ⟨#[105, 100]⟩, .slice none 0 0] w fun e w'' => ∃ v, e = .returned (.tuple #[v, .nilIface]) ∧ FrW w w'' v [2, 105, 100, 0] :=
  (frame_any ⟨#[105, 100]⟩ [] none 0 0 0 0 rfl w (fun h => absurd h (Nat.lt_irrefl _)) (fun i hi => absurd hi (Nat.not_lt_zero _)) (by decide) (by decide) eT eL hE).mono (by
    rintro e w' ⟨hg, v, u, rfl, h⟩
    rcases h with ⟨_, rfl, hW⟩ | ⟨h, _⟩ | ⟨h, _⟩
    · rw [id_frame] at hW; exact ⟨v, rfl, hW⟩
    · rw [id_word] at h; cases h
    · rw [id_word] at h; cases h)
theorem hmac_len (k t : List Nat) : (Hm.hmac k t).length = 32 := Sha.sum_len _
theorem hmac_lt (k t : List Nat) : ∀ x ∈ Hm.hmac k t, x < 256 := sum_lt' _
set_option maxRecDepth 100000 in
set_option maxHeartbeats 400000 in
theorem macID_any (vk : Value) (k : List Nat) (w : World) (hK : Bytes w vk k) (hk : k.length < 1152921504606846000) (hL : Laid w) (eT eL : Value) (hE : Errs w eT eL) :
    Calls Tryd.prog 32 #[vk] w fun e w' => e = .returned (.string (idText k)) ∧ w.grownBy w' none := by
  have hz32 := zeros32_at w
  obtain ⟨d, hd⟩ : ∃ d, d = Hm.hmac k [2, 105, 100, 0] := ⟨_, rfl⟩
  have hdl : d.length = 32 := by rw [hd, hmac_len]
  have hdt : ∀ x ∈ d, x < 256 := by rw [hd]; exact hmac_lt _ _
  obtain ⟨Y, hY⟩ : ∃ Y, Y = idText k := ⟨_, rfl⟩
  have hY' : strOf (hexL (d.take 16)) = Y := by rw [hY, idText, hd]
  have HT := tagged_ok vk k ⟨#[105, 100]⟩ (.slice none 0 0) [2, 105, 100, 0] w hK hk (by decide) id_lt hL (fun w' hg => id_frames w' eT eL (hE.grown hg))
  rw [← hd] at HT
  have HTx := text_any d hdl hdt
  obtain ⟨X, hX⟩ : ∃ X, X = strOf (hexL d) := ⟨_, rfl⟩
  have hs1 := id_slice d hdl X hX
  have hs2 := id_slice' d hdl X hX
  rw [hY'] at hs1 hs2
  rw [← hX] at HTx
  obtain ⟨D, hD⟩ : ∃ D, D = bytesV d := ⟨_, rfl⟩
  have hDl : D.size = 32 := by rw [hD, bytesV_size, hdl]
  have HI : Hid ((Tryd.prog.info? 64).map (·.size) = some D.size) := by rw [hDl]; exact Lib.hid (by kernel_rfl)
  have HI4 : Hid (zeros32.size = D.size) := by rw [hDl]; exact Lib.hid rfl
  have HO : Hid (D.all (·.oneCell') = true) := by rw [hD]; exact Lib.hid (bytesV_one _)
  rw [← hD] at HT
  rw [← hD] at HTx
  rw [← hY]
  have HT' := Lib.hid HT
  have HTx' := Lib.hid HTx
  clear hd hdl hdt hY hY' hX hD hDl HT HTx hK hk hL hE
  go_enter Tryd.func32, Tryd.ntmps32
  go_wp2_with (first
    | (go_at_call 29; refine HT'.out.mono ?_; rintro e w1 ⟨rfl, hg1⟩; have G1 := Lib.hid hg1; have Z1 := Lib.hid (alloc_at w1 (.cells zeros32 64)); clear hg1)
    | (refine wpList_store_row (by rfl) 64 (.tmp 3) (.tmp 8) (by rfl) w1.heap.size D (by rfl) (by rfl) _ _ Z1.out HI.out HI4.out HO.out ?_; obtain ⟨W2, hW2⟩ : ∃ W2, W2 = (w1.alloc (.cells zeros32 64)).setRow w1.heap.size D := ⟨_, rfl⟩; rw [← hW2]; have g2 : Hid (w1.grownBy W2 none) := Lib.hid (by rw [hW2]; exact grown_setRow (World.grownBy_alloc _ _ _) (Nat.le_refl _) _); have b2 : Hid (W2.heap[w1.heap.size]? = some (.cells D 64 (0, 0))) := Lib.hid (by rw [hW2]; exact setRow_heap _ _ _ _ _ _ Z1.out); clear hW2)
    | (refine wpList_load_row (by rfl) 64 (.tmp 3) (by rfl) w1.heap.size (by rfl) _ D (0, 0) _ b2.out Tryd.underlying64 (by rfl) HI.out ?_)
    | (go_at_call 48; refine (HTx'.out W2).mono ?_; rintro e w3 ⟨rfl, hg3⟩; have G3 := Lib.hid hg3; clear hg3))
  go_ret
  exact ⟨rfl, grown_trans G1.out (grown_trans g2.out G3.out)⟩
end Go.Proofs.YtgdnndapmcjoeaaDoor
