import Derived.Test.YtgdnndapmcjoeaaDoorKe23
import Derived.Test.YtgdnndapmcjoeaaDoorKe27
namespace Go.Proofs.YtgdnndapmcjoeaaDoor
open Go.RowKit
theorem results_row_tmp {P : Program} {fn : Func} {p u : Tmp} {ty : TypeId} (h : fn.results = #[.cell p ty, .tmp u]) (tmps : Array Value) (w : World) (g : Nat) (t : TypeId) (cs : Array Value) (fr : Nat × Nat) (d : TypeDesc) (v : Value)
    (hp : tmps.getD p undef = .pointer (some ⟨g, 0, none⟩)) (hg : w.heap[g]? = some (.cells cs t fr)) (hu : P.underlying ty = some d) (hd : (match d with | .struct _ | .array _ _ => true | _ => false) = true) (hi : (P.info? ty).map (·.size) = some cs.size)
    (hv : tmps.getD u undef = v) : (results fn tmps).run P w = .ok (.tuple #[.agg cs, v]) w := by
  rw [results_cell_tmp h, hp, hv]
  simp [asAddr, Sem.run_pure, Result.andThen, run_loadVar_row w g t ty cs fr d hg hu hd hi]
set_option maxRecDepth 100000 in
set_option maxHeartbeats 400000 in
theorem tagged_ok (vk : Value) (k : List Nat) (s : ByteArray) (vp : Value) (F : List Nat) (w : World) (hK : Bytes w vk k) (hk : k.length < 1152921504606846000) (hF : F.length < 1152921504606840000) (hFlt : ∀ x ∈ F, x < 256) (hL : Laid w)
    (hFr : ∀ w', w.grownBy w' none → Calls Tryd.prog 42 #[.string s, vp] w' fun e w'' => ∃ v, e = .returned (.tuple #[v, .nilIface]) ∧ FrW w' w'' v F) :
    Calls Tryd.prog 29 #[vk, .string s, vp] w fun e w' => e = .returned (.tuple #[.agg (bytesV (Hm.hmac k F)), .nilIface]) ∧ w.grownBy w' none := by
  have hz32 := zeros32_at w
  obtain ⟨w0, hw0⟩ : ∃ w0, w0 = w.alloc (.cells zeros32 64) := ⟨_, rfl⟩
  have B0 : Hid (w0.heap[w.heap.size]? = some (.cells zeros32 64 (0, 0))) := Lib.hid (by rw [hw0]; exact alloc_at _ _)
  have G0 : Hid (w.grownBy w0 none) := Lib.hid (by rw [hw0]; exact World.grownBy_alloc _ _ _)
  have HW0 := Lib.hid hw0
  obtain ⟨D, hD⟩ : ∃ D, D = bytesV (Hm.hmac k F) := ⟨_, rfl⟩
  have hDl : D.size = 32 := by rw [hD, bytesV_size, Hm.hmac, Sha.sum_len]
  have hDo : D.all (·.oneCell') = true := by rw [hD]; exact bytesV_one _
  have HM : Hid (∀ (w' : World) (g : Nat) (x : Value), w.grownBy w' none → w'.heap[g]? = some (.cells #[x] 22 (0, 0)) → Bytes w' x F → Calls Tryd.prog 43 #[vk, .slice (some ⟨g, 0, none⟩) 1 1] w' fun e w'' => e = .returned (.agg D) ∧ w'.grownBy w'' none) := Lib.hid (fun w' g x hg hb hx => by
    have ef : [F].flatten = F := by simp
    have := macSum_any vk k [F] (some ⟨g, 0, none⟩) g 0 1 1 rfl w' (hK.grown hg) hk (fun _ => ⟨rfl, blk_lt hb⟩) (fun i hi => by
      match i, hi with
      | 0, _ => exact ⟨x, cell_blk hb 0 rfl, hx⟩) (by rw [ef]; exact hF) (by decide) (hL.grown hg (by simp) (by simp))
    rw [ef] at this
    rw [hD]
    exact this)
  rw [← hD]
  have HI : Hid ((Tryd.prog.info? 64).map (·.size) = some D.size) := by rw [hDl]; exact Lib.hid (by kernel_rfl)
  have HI4 : Hid (zeros32.size = D.size) := by rw [hDl]; exact Lib.hid rfl
  have HO := Lib.hid hDo
  have HFr := Lib.hid hFr
  have HFl := Lib.hid hFlt
  clear hw0 hD hDl hDo hK hk hF hFlt hL hFr
  go_enter Tryd.func29, Tryd.ntmps29
  go_wp2_with (first
    | (go_at_call 42; rw [← HW0.out]; refine (HFr.out w0 G0.out).mono ?_; rintro e w1 ⟨v1, rfl, hF1⟩; obtain ⟨a1, g1, c1, rfl, _, _, _, _⟩ := ownsRow_form hF1.own; have hB1 := Bytes.own hF1.own HFl.out; generalize F.length = m1 at *; have F1 := Lib.hid hB1; have G1 := Lib.hid hF1.grown; clear hF1 hB1)
    | (go_at_call 43; refine (HM.out (w1.alloc (.cells #[.slice a1 m1 c1] 22)) w1.heap.size _ (grown_alloc (grown_trans G0.out G1.out) _) (alloc_at w1 _) (F1.out.grown (World.grownBy_alloc _ _ _))).mono ?_; rintro e w2 ⟨rfl, hg2⟩; have G2 := Lib.hid (grown_trans G1.out (grown_trans (World.grownBy_alloc _ _ _) hg2)); have B2 := Lib.hid ((G2.out.block _ (blk_lt B0.out) (by simp)).trans B0.out); clear hg2)
    | (refine wpList_store_row (by rfl) 64 (.tmp 6) (.tmp 23) (by rfl) w.heap.size D (by rfl) (by rfl) _ _ B2.out HI.out HI4.out HO.out ?_))
  refine bodyPost_ret (v := .tuple #[.agg D, .nilIface]) ?_ rfl ⟨rfl, grown_setRow (grown_trans G0.out G2.out) (Nat.le_refl _) _⟩
  exact results_row_tmp Tryd.results29 _ _ w.heap.size _ _ (0, 0) _ _ rfl (setRow_heap _ _ _ D _ _ B2.out) Tryd.underlying64 rfl HI.out rfl
set_option maxRecDepth 100000 in
set_option maxHeartbeats 400000 in
theorem refTagged_id (vk : Value) (k : List Nat) (w : World) (hK : Bytes w vk k) (hK0 : Whole0 vk) (hk : k.length < 1099511620000) :
    Calls Tryd.prog 22 #[vk, .string ⟨#[105, 100]⟩, .slice none 0 0] w fun e w' => e = .returned (.agg (bytesV (Hm.hmac k [2, 105, 100, 0]))) ∧ w.grownBy w' none := by
  have hz32 := zeros32_at w
  obtain ⟨w0, hw0⟩ : ∃ w0, w0 = w.alloc (.cells zeros32 64) := ⟨_, rfl⟩
  have B0 : Hid (w0.heap[w.heap.size]? = some (.cells zeros32 64 (0, 0))) := Lib.hid (by rw [hw0]; exact alloc_at _ _)
  have G0 : Hid (w.grownBy w0 none) := Lib.hid (by rw [hw0]; exact World.grownBy_alloc _ _ _)
  have HW0 := Lib.hid hw0
  obtain ⟨D, hD⟩ : ∃ D, D = bytesV (Hm.hmac k [2, 105, 100, 0]) := ⟨_, rfl⟩
  have hDl : D.size = 32 := by rw [hD, bytesV_size, Hm.hmac, Sha.sum_len]
  have hDo : D.all (·.oneCell') = true := by rw [hD]; exact bytesV_one _
  have HM : Hid (∀ (w' : World) (x : Value), w.grownBy w' none → Bytes w' x [2, 105, 100, 0] → Whole0 x → Calls Tryd.prog 35 #[vk, x] w' fun e w'' => e = .returned (.agg D) ∧ w'.grownBy w'' none) := Lib.hid (fun w' x hg hx h0 => by
    rw [hD]
    exact refHmac_any vk x k _ w' (hK.grown hg) hK0 hk hx h0 (by decide))
  rw [← hD]
  have HI : Hid ((Tryd.prog.info? 64).map (·.size) = some D.size) := by rw [hDl]; exact Lib.hid (by kernel_rfl)
  have HI4 : Hid (zeros32.size = D.size) := by rw [hDl]; exact Lib.hid rfl
  have HO := Lib.hid hDo
  clear hw0 hD hDl hDo hK hK0 hk
  go_enter Tryd.func22, Tryd.ntmps22
  go_wp2_with (first
    | (go_at_call 20; rw [← HW0.out]; refine (refFrame_id w0).mono ?_; rintro e w1 ⟨v1, rfl, hF1⟩; have F1 := Lib.hid hF1; clear hF1)
    | (go_at_call 35; refine (HM.out w1 v1 (grown_trans G0.out F1.out.grown) (Bytes.own F1.out.own id_lt) (Whole0.own F1.out.own)).mono ?_; rintro e w2 ⟨rfl, hg2⟩; have G2 := Lib.hid (grown_trans F1.out.grown hg2); have B2 := Lib.hid ((G2.out.block _ (blk_lt B0.out) (by simp)).trans B0.out); clear hg2)
    | (refine wpList_store_row (by rfl) 64 (.tmp 6) (.tmp 17) (by rfl) w.heap.size D (by rfl) (by rfl) _ _ B2.out HI.out HI4.out HO.out ?_))
  refine bodyPost_ret (v := .agg D) ?_ rfl ⟨rfl, grown_setRow (grown_trans G0.out G2.out) (Nat.le_refl _) _⟩
  exact results_cell_row Tryd.results22 _ _ w.heap.size _ _ (0, 0) _ rfl (setRow_heap _ _ _ D _ _ B2.out) Tryd.underlying64 rfl HI.out
end Go.Proofs.YtgdnndapmcjoeaaDoor
namespace Go.Proofs.YtgdnndapmcjoeaaDoor
open Go.RowKit
set_option maxRecDepth 100000 in
set_option maxHeartbeats 400000 in
theorem tagged_err (vk : Value) (s : ByteArray) (vp : Value) (ty : TypeId) (u : Value) (w : World)
    (hFr : ∀ w', w.grownBy w' none → Calls Tryd.prog 42 #[.string s, vp] w' fun e w'' => e = .returned (.tuple #[.slice none 0 0, .iface ty u]) ∧ w'.grownBy w'' none) :
    Calls Tryd.prog 29 #[vk, .string s, vp] w fun e w' => e = .returned (.tuple #[.agg zeros32, .iface ty u]) ∧ w.grownBy w' none := by
  have hz32 := zeros32_at w
  obtain ⟨w0, hw0⟩ : ∃ w0, w0 = w.alloc (.cells zeros32 64) := ⟨_, rfl⟩
  have B0 : Hid (w0.heap[w.heap.size]? = some (.cells zeros32 64 (0, 0))) := Lib.hid (by rw [hw0]; exact alloc_at _ _)
  have G0 : Hid (w.grownBy w0 none) := Lib.hid (by rw [hw0]; exact World.grownBy_alloc _ _ _)
  have HW0 := Lib.hid hw0
  have HI : Hid ((Tryd.prog.info? 64).map (·.size) = some zeros32.size) := Lib.hid (by kernel_rfl)
  have HO : Hid (zeros32.all (·.oneCell') = true) := Lib.hid (bytesV_one _)
  have HFr := Lib.hid hFr
  clear hw0 hFr
  go_enter Tryd.func29, Tryd.ntmps29
  go_wp2_with (first
    | (go_at_call 42; rw [← HW0.out]; refine (HFr.out w0 G0.out).mono ?_; rintro e w1 ⟨rfl, hg1⟩; have G1 := Lib.hid hg1; have B1 := Lib.hid ((hg1.block _ (blk_lt B0.out) (by simp)).trans B0.out); clear hg1)
    | (refine wpList_store_row (by rfl) 64 (.tmp 6) (.tmp 18) (by rfl) w.heap.size zeros32 (by rfl) (by rfl) _ _ B1.out HI.out rfl HO.out ?_))
  refine bodyPost_ret (v := .tuple #[.agg zeros32, .iface ty u]) ?_ rfl ⟨rfl, grown_setRow (grown_trans G0.out G1.out) (Nat.le_refl _) _⟩
  exact results_row_tmp Tryd.results29 _ _ w.heap.size _ _ (0, 0) _ _ rfl (setRow_heap _ _ _ zeros32 _ _ B1.out) Tryd.underlying64 rfl HI.out rfl
end Go.Proofs.YtgdnndapmcjoeaaDoor
namespace Go.Proofs.YtgdnndapmcjoeaaDoor
open Go.RowKit
/-- The number's text. -/
def idText (k : List Nat) : ByteArray := strOf (hexL ((Hm.hmac k [2, 105, 100, 0]).take 16))
theorem id_word : fErr (strL ⟨#[105, 100]⟩) [] = 0 := by decide
theorem id_frame : frameOf (strL ⟨#[105, 100]⟩) [] = [2, 105, 100, 0] := by decide
theorem id_frames (w : World) (eT eL : Value) (hE : Errs w eT eL) : Calls Tryd.prog 42 #[.string ⟨#[105, 100]⟩, .slice none 0 0] w fun e w'' => ∃ v, e = .returned (.tuple #[v, .nilIface]) ∧ FrW w w'' v [2, 105, 100, 0] :=
  (frame_any ⟨#[105, 100]⟩ [] none 0 0 0 0 rfl w (fun h => absurd h (Nat.lt_irrefl _)) (fun i hi => absurd hi (Nat.not_lt_zero _)) (by decide) (by decide) eT eL hE).mono (by
    rintro e w' ⟨hg, v, u, rfl, h⟩
    rcases h with ⟨_, rfl, hW⟩ | ⟨h, _⟩ | ⟨h, _⟩
    · rw [id_frame] at hW; exact ⟨v, rfl, hW⟩
    · rw [id_word] at h; cases h
    · rw [id_word] at h; cases h)
theorem hmac_len (k t : List Nat) : (Hm.hmac k t).length = 32 := Sha.sum_len _
theorem hmac_lt (k t : List Nat) : ∀ x ∈ Hm.hmac k t, x < 256 := sum_lt' _
set_option maxRecDepth 100000 in
set_option maxHeartbeats 400000 in
theorem macID_any (vk : Value) (k : List Nat) (w : World) (hK : Bytes w vk k) (hk : k.length < 1152921504606846000) (hL : Laid w) (eT eL : Value) (hE : Errs w eT eL) :
    Calls Tryd.prog 32 #[vk] w fun e w' => e = .returned (.string (idText k)) ∧ w.grownBy w' none := by
  have hz32 := zeros32_at w
  obtain ⟨d, hd⟩ : ∃ d, d = Hm.hmac k [2, 105, 100, 0] := ⟨_, rfl⟩
  have hdl : d.length = 32 := by rw [hd, hmac_len]
  have hdt : ∀ x ∈ d, x < 256 := by rw [hd]; exact hmac_lt _ _
  obtain ⟨Y, hY⟩ : ∃ Y, Y = idText k := ⟨_, rfl⟩
  have hY' : strOf (hexL (d.take 16)) = Y := by rw [hY, idText, hd]
  have HT := tagged_ok vk k ⟨#[105, 100]⟩ (.slice none 0 0) [2, 105, 100, 0] w hK hk (by decide) id_lt hL (fun w' hg => id_frames w' eT eL (hE.grown hg))
  rw [← hd] at HT
  have HTx := text_any d hdl hdt
  obtain ⟨X, hX⟩ : ∃ X, X = strOf (hexL d) := ⟨_, rfl⟩
  have hs1 := id_slice d hdl X hX
  have hs2 := id_slice' d hdl X hX
  rw [hY'] at hs1 hs2
  rw [← hX] at HTx
  obtain ⟨D, hD⟩ : ∃ D, D = bytesV d := ⟨_, rfl⟩
  have hDl : D.size = 32 := by rw [hD, bytesV_size, hdl]
  have HI : Hid ((Tryd.prog.info? 64).map (·.size) = some D.size) := by rw [hDl]; exact Lib.hid (by kernel_rfl)
  have HI4 : Hid (zeros32.size = D.size) := by rw [hDl]; exact Lib.hid rfl
  have HO : Hid (D.all (·.oneCell') = true) := by rw [hD]; exact Lib.hid (bytesV_one _)
  rw [← hD] at HT
  rw [← hD] at HTx
  rw [← hY]
  have HT' := Lib.hid HT
  have HTx' := Lib.hid HTx
  clear hd hdl hdt hY hY' hX hD hDl HT HTx hK hk hL hE
  go_enter Tryd.func32, Tryd.ntmps32
  go_wp2_with (first
    | (go_at_call 29; refine HT'.out.mono ?_; rintro e w1 ⟨rfl, hg1⟩; have G1 := Lib.hid hg1; have Z1 := Lib.hid (alloc_at w1 (.cells zeros32 64)); clear hg1)
    | (refine wpList_store_row (by rfl) 64 (.tmp 3) (.tmp 8) (by rfl) w1.heap.size D (by rfl) (by rfl) _ _ Z1.out HI.out HI4.out HO.out ?_; obtain ⟨W2, hW2⟩ : ∃ W2, W2 = (w1.alloc (.cells zeros32 64)).setRow w1.heap.size D := ⟨_, rfl⟩; rw [← hW2]; have g2 : Hid (w1.grownBy W2 none) := Lib.hid (by rw [hW2]; exact grown_setRow (World.grownBy_alloc _ _ _) (Nat.le_refl _) _); have b2 : Hid (W2.heap[w1.heap.size]? = some (.cells D 64 (0, 0))) := Lib.hid (by rw [hW2]; exact setRow_heap _ _ _ _ _ _ Z1.out); clear hW2)
    | (refine wpList_load_row (by rfl) 64 (.tmp 3) (by rfl) w1.heap.size (by rfl) _ D (0, 0) _ b2.out Tryd.underlying64 (by rfl) HI.out ?_)
    | (go_at_call 48; refine (HTx'.out W2).mono ?_; rintro e w3 ⟨rfl, hg3⟩; have G3 := Lib.hid hg3; clear hg3))
  go_ret
  exact ⟨rfl, grown_trans G1.out (grown_trans g2.out G3.out)⟩
set_option maxRecDepth 100000 in
set_option maxHeartbeats 400000 in
theorem refID_any (vk : Value) (k : List Nat) (w : World) (hK : Bytes w vk k) (hK0 : Whole0 vk) (hk : k.length < 1099511620000) :
    Calls Tryd.prog 36 #[vk] w fun e w' => e = .returned (.string (idText k)) ∧ w.grownBy w' none := by
  have hz32 := zeros32_at w
  obtain ⟨d, hd⟩ : ∃ d, d = Hm.hmac k [2, 105, 100, 0] := ⟨_, rfl⟩
  have hdl : d.length = 32 := by rw [hd, hmac_len]
  have hdt : ∀ x ∈ d, x < 256 := by rw [hd]; exact hmac_lt _ _
  obtain ⟨Y, hY⟩ : ∃ Y, Y = idText k := ⟨_, rfl⟩
  have HT := refTagged_id vk k w hK hK0 hk
  rw [← hd] at HT
  obtain ⟨D, hD⟩ : ∃ D, D = bytesV d := ⟨_, rfl⟩
  have hDl : D.size = 32 := by rw [hD, bytesV_size, hdl]
  have HI : Hid ((Tryd.prog.info? 64).map (·.size) = some D.size) := by rw [hDl]; exact Lib.hid (by kernel_rfl)
  have HI4 : Hid (zeros32.size = D.size) := by rw [hDl]; exact Lib.hid rfl
  have HO : Hid (D.all (·.oneCell') = true) := by rw [hD]; exact Lib.hid (bytesV_one _)
  have HX : Hid (∀ (w' : World) (g : Nat), w'.heap[g]? = some (.cells D 64 (0, 0)) → Calls Tryd.prog 51 #[.slice (some ⟨g, 0, none⟩) 16 32] w' fun e w'' => e = .returned (.string Y) ∧ w'.grownBy w'' none) := Lib.hid (fun w' g hb => by
    rw [hD] at hb
    have hl16 : (d.take 16).length = 16 := by rw [List.length_take, hdl]; rfl
    have hB : Bytes w' (.slice (some ⟨g, 0, none⟩) 16 32) (d.take 16) := ⟨fun x hx => hdt x (List.mem_of_mem_take hx), some ⟨g, 0, none⟩, g, 0, 32, by rw [hl16], by rw [hl16]; decide, fun _ => ⟨rfl, blk_lt hb⟩, fun j hj => by
      rw [hl16] at hj
      rw [Nat.zero_add, cell_blk hb j (bytesV_at d j (by omega))]
      congr 3
      simp [hj]⟩
    have := refText_any _ _ w' hB (by rw [hl16]; decide)
    rw [hY, idText, ← hd]
    exact this)
  rw [← hD] at HT
  rw [← hY]
  have HT' := Lib.hid HT
  clear hd hdl hdt hY hD hDl HT hK hK0 hk
  go_enter Tryd.func36, Tryd.ntmps36
  go_wp2_with (first
    | (go_at_call 22; refine HT'.out.mono ?_; rintro e w1 ⟨rfl, hg1⟩; have G1 := Lib.hid hg1; have Z1 := Lib.hid (alloc_at w1 (.cells zeros32 64)); clear hg1)
    | (refine wpList_store_row (by rfl) 64 (.tmp 3) (.tmp 5) (by rfl) w1.heap.size D (by rfl) (by rfl) _ _ Z1.out HI.out HI4.out HO.out ?_; obtain ⟨W2, hW2⟩ : ∃ W2, W2 = (w1.alloc (.cells zeros32 64)).setRow w1.heap.size D := ⟨_, rfl⟩; rw [← hW2]; have g2 : Hid (w1.grownBy W2 none) := Lib.hid (by rw [hW2]; exact grown_setRow (World.grownBy_alloc _ _ _) (Nat.le_refl _) _); have b2 : Hid (W2.heap[w1.heap.size]? = some (.cells D 64 (0, 0))) := Lib.hid (by rw [hW2]; exact setRow_heap _ _ _ _ _ _ Z1.out); clear hW2)
    | (go_at_call 51; refine (HX.out W2 w1.heap.size b2.out).mono ?_; rintro e w3 ⟨rfl, hg3⟩; have G3 := Lib.hid hg3; clear hg3))
  go_ret
  exact ⟨rfl, grown_trans G1.out (grown_trans g2.out G3.out)⟩
end Go.Proofs.YtgdnndapmcjoeaaDoor
namespace Go.Proofs.YtgdnndapmcjoeaaDoor
open Go.RowKit
theorem be4_doc (q : Nat) (h : q ≤ 65536) : (cellsL (be4 q)).toArray = #[Value.int IntKind.u8 (wrap64 ((q : Int) / 16777216) % 256), Value.int IntKind.u8 ((wrap64 ((q : Int) / 65536)).tmod 256 % 256), Value.int IntKind.u8 ((wrap64 ((q : Int) / 256)).tmod 256 % 256), Value.int IntKind.u8 ((q : Int) % 256)] := by
  have w1 : wrap64 ((q : Int) / 16777216) = (q : Int) / 16777216 := by unfold wrap64; omega
  have w2 : wrap64 ((q : Int) / 65536) = (q : Int) / 65536 := by unfold wrap64; omega
  have w3 : wrap64 ((q : Int) / 256) = (q : Int) / 256 := by unfold wrap64; omega
  rw [w1, w2, w3, Int.tmod_eq_emod_of_nonneg (by omega), Int.tmod_eq_emod_of_nonneg (by omega)]
  simp [cellsL, be4]
/-- What the document's Frame answers. -/
def RfPost (w w' : World) (W : List Nat) (parts : List (List Nat)) (e : Ending) : Prop :=
  ∃ v, e = .returned (.tuple #[v, .int .i64 (fErr W parts : Nat)]) ∧ (fErr W parts = 0 → FrW w w' v (frameOf W parts)) ∧ (fErr W parts ≠ 0 → v = .slice none 0 0)
set_option maxRecDepth 100000 in
set_option maxHeartbeats 2000000 in
theorem refFrame_any (s : ByteArray) (parts : List (List Nat)) (a : Option Addr) (sb so n c : Nat) (hn : parts.length = n) (w : World) (ha : 0 < n → a = some ⟨sb, so, none⟩ ∧ sb < w.heap.size) (hP : PartsW w sb so parts)
    (hs : s.size ≤ 1099511620000) (hnn : n ≤ 1099511620000) :
    Calls Tryd.prog 20 #[.string s, .slice a n c] w fun e w' => RfPost w w' (strL s) parts e ∧ w.grownBy w' none := by
  obtain ⟨m, hm⟩ : ∃ m, m = s.size := ⟨_, rfl⟩
  have Hm := Lib.hid hm
  have Hn := Lib.hid hn
  have Ha := Lib.hid ha
  have HP := Lib.hid hP
  obtain ⟨W, hW⟩ : ∃ W, W = strL s := ⟨_, rfl⟩
  have HWl : Hid (W.length = m) := Lib.hid (by rw [hW, strL_len, hm])
  have HWs := Lib.hid hW
  have HIx : Hid (∀ j : Nat, j < m → ∀ V, (Instr.index 9 (.string s) (.int .i64 (j : Int))).run Tryd.prog V = .ok (.int .u8 (W.getD j 0 : Nat)) V) := Lib.hid (fun j hj V => by
    have hjs : j < s.size := by omega
    rw [run_index_string V _ s .i64 j Tryd.underlying9, dif_pos ⟨by omega, by omega⟩, hW, ← strL_getD s j hjs]
    rfl)
  have HLt : Hid (∀ j : Nat, W.getD j 0 < 256) := Lib.hid (fun j => getD_lt' (by rw [hW]; exact strL_lt s) j)
  have hsz : ((s.size : Nat) : Int) = (m : Int) := by rw [hm]
  have hm2 : m ≤ 1099511620000 := by omega
  rw [← hW]
  have E8 : Hid (wordB W = false → ∀ w', RfPost w w' W parts (.returned (.tuple #[.slice none 0 0, .int .i64 8]))) := Lib.hid (fun h w' => by
    have e : fErr W parts = 8 := by rw [fErr, if_pos h]
    exact ⟨_, by rw [e]; rfl, fun h => (by rw [e] at h; cases h), fun _ => rfl⟩)
  clear hm hn ha hP hW hs
  by_cases hlen : m < 1 ∨ 32 < m
  · have hw : wordB W = false := by
      rw [wordB, Bool.and_eq_false_iff]
      left
      exact decide_eq_false (by rw [HWl.out]; omega)
    have E := Lib.hid (E8.out hw)
    clear hw
    by_cases h1 : m < 1
    · have d1 : decide ((m : Int) < 1) = true := decide_eq_true (by omega)
      clear hlen h1
      go_enter Tryd.func20, Tryd.ntmps20
      go_wp2
      go_ret2
      exact ⟨E.out _, grown_refl _ _⟩
    · have d1 : decide ((m : Int) < 1) = false := decide_eq_false (by omega)
      have d2 : decide ((32 : Int) < (m : Int)) = true := decide_eq_true (by omega)
      clear hlen h1
      go_enter Tryd.func20, Tryd.ntmps20
      go_wp2
      go_ret2
      exact ⟨E.out _, grown_refl _ _⟩
  · have d1 : decide ((m : Int) < 1) = false := decide_eq_false (by omega)
    have d2 : decide ((32 : Int) < (m : Int)) = false := decide_eq_false (by omega)
    have hm1 : 1 ≤ m := by omega
    have hm32 : m ≤ 32 := by omega
    clear hlen hm2
    go_enter Tryd.func20, Tryd.ntmps20
    go_wp2
    go_loopw [6] (fun i wr => ∃ k : Nat, k ≤ m ∧ i = .int .i64 k ∧ wr = w ∧ ∀ j, j < k → letter (W.getD j 0) = true) (fun i _ => m - (intOf i).toNat)
    case atStart => exact ⟨0, Nat.zero_le _, rfl, rfl, fun j hj => absurd hj (Nat.not_lt_zero _)⟩
    case round =>
      obtain ⟨k, hk, rfl, rfl, hall⟩ := hrel
      have HA := Lib.hid hall
      clear hall
      by_cases hkm : k < m
      · have hi := HIx.out k hkm
        have hc256 := HLt.out k
        have HBad : Hid (letter (W.getD k 0) = false → wordB W = false) := Lib.hid (fun hb => by
          rw [wordB, Bool.and_eq_false_iff]
          right
          rw [← Bool.not_eq_true, List.all_eq_true]
          intro h
          have := h (W.getD k 0) (by rw [getD_get _ _ (by rw [HWl.out]; exact hkm)]; exact List.getElem_mem _)
          rw [hb] at this
          cases this)
        have HGood : Hid (letter (W.getD k 0) = true → ∀ j, j < k + 1 → letter (W.getD j 0) = true) := Lib.hid (fun hg j hj => by
          rcases Nat.lt_or_ge j k with h | h
          · exact HA.out j h
          · obtain rfl : j = k := by omega
            exact hg)
        generalize W.getD k 0 = ch at *
        go_wp2
        all_goals first
          | (go_ret2; exact ⟨E8.out (HBad.out (by unfold letter; rw [decide_eq_false_iff_not]; (try simp only [bne_iff_ne, decide_eq_false_iff_not] at *); omega)) _, grown_refl _ _⟩)
          | (refine ⟨⟨k + 1, by omega, by go_num, trivial, HGood.out (by unfold letter; rw [decide_eq_true_eq]; (try simp only [bne_eq_false_iff_eq, decide_eq_false_iff_not] at *); omega)⟩, by simp [intOf]; omega⟩)
      · obtain rfl : k = m := by omega
        obtain ⟨wo, rfl⟩ : ∃ wo : World, wo = wr := ⟨_, rfl⟩
        have hwB : wordB W = true := by
          rw [wordB, Bool.and_eq_true, decide_eq_true_eq, HWl.out]
          refine ⟨⟨hm1, hm32⟩, ?_⟩
          rw [List.all_eq_true]
          intro x hx
          obtain ⟨j, hj, rfl⟩ := List.mem_iff_getElem.1 hx
          have := HA.out j (by rw [← HWl.out]; exact hj)
          rwa [getD_get _ _ hj] at this
        have E3 : Hid ((16 < parts.length ∨ ∃ p ∈ parts, 65536 < p.length) → ∀ w', RfPost wo w' W parts (.returned (.tuple #[.slice none 0 0, .int .i64 3]))) := Lib.hid (fun h w' => by
          have e : fErr W parts = 3 := by
            rw [fErr, if_neg (by rw [hwB]; simp)]
            rcases h with h | h
            · rw [if_pos h]
            · by_cases h16 : 16 < parts.length
              · rw [if_pos h16]
              · rw [if_neg h16, if_pos h]
          exact ⟨_, by rw [e]; rfl, fun h => (by rw [e] at h; cases h), fun _ => rfl⟩)
        have HwB := Lib.hid hwB
        clear hwB hk hkm
        by_cases hn16 : 16 < n
        · have d3 : decide ((16 : Int) < (n : Int)) = true := decide_eq_true (by omega)
          have E := Lib.hid (E3.out (.inl (by rw [Hn.out]; exact hn16)))
          clear hn16
          go_wp2
          go_ret2
          exact ⟨E.out _, grown_refl _ _⟩
        · have d3 : decide ((16 : Int) < (n : Int)) = false := decide_eq_false (by omega)
          have hn16' : n ≤ 16 := by omega
          have F1 : Hid (FrW wo (wo.alloc (.cells #[.int .u8 k] 5)) (.slice (some ⟨wo.heap.size, 0, none⟩) 1 1) [k]) := Lib.hid ⟨World.grownBy_alloc _ _ _, ownsRow_lit (alloc_at wo _) (Nat.le_refl _) (by simp)⟩
          have HFh : Hid (fhead W n = [k] ++ W ++ [n]) := Lib.hid (by rw [fhead, HWl.out]; rfl)
          have HFl : Hid (([k] ++ W ++ [n]).length = k + 2) := Lib.hid (by simp [HWl.out])
          have HWl' := HWl.out
          have HWlt := Lib.hid (show ∀ x ∈ W, x < 256 from by rw [HWs.out]; exact strL_lt s)
          clear hn16 HWl' hnn
          go_wp2_with (first
            | (refine wpList_strB (by rfl) 9 22 (.tmp 55) (by rfl) Tryd.underlying9 Tryd.underlying22 Tryd.underlying5 s (by rfl) ?_; intro c2 w2 hg2 hb2; rw [← HWs.out] at hb2; have B2 := Lib.hid hb2; have F2 : Hid (FrW wo w2 (.slice (some ⟨wo.heap.size, 0, none⟩) 1 1) [k]) := Lib.hid ⟨grown_trans F1.out.grown hg2, F1.out.own.kept hg2 (Classical.em _)⟩; clear hg2 hb2)
            | (at_builtin; refine wpList_appB (by rfl) (.tmp 54) (.tmp 56) 22 (by rfl) wo.heap.size 5 (.int .u8 0) 1 Tryd.underlying22 (by kernel_rfl) rfl (by decide) _ 1 (cellsL [k]) (by rfl) F2.out.own _ W (by rfl) B2.out (Whole0.some _ _ _) (by rw [HWl.out]; omega) F2.out.le ?_; intro v3 w3 ho3 hg3; have F3 := Lib.hid (F2.out.step (l' := [k] ++ W) ho3 hg3 (cellsL_append _ _).symm); clear ho3 hg3)
            | (at_builtin; refine wpList_app1 (by rfl) (.tmp 58) (.tmp 62) 22 (by rfl) wo.heap.size 5 (.int .u8 0) 1 Tryd.underlying22 (by kernel_rfl) rfl (by decide) v3 _ (cellsL ([k] ++ W)) (by rfl) (F3.out.own.alloc _) ⟨_, 0, none⟩ _ (by rfl) (cell_blk (alloc_at _ _) 0 rfl) rfl (by rw [List.length_append, HWl.out]; simp; omega) (by have := F3.out.le; rw [alloc_size]; omega) ?_; intro v4 w4 ho4 hg4; have F4 := Lib.hid ((F3.out.alloc _).step (l' := [k] ++ W ++ [n]) ho4 hg4 (by simp [cellsL])); clear ho4 hg4))
          clear HIx HLt HWlt
          go_loopw [8, 66] (fun x i wq => ∃ j : Nat, j ≤ n ∧ i = .int .i64 j ∧ FrW wo wq x (fhead W n ++ fbody (parts.take j)) ∧ ∀ i, i < j → (parts.getD i []).length ≤ 65536) (fun _ i _ => n - (intOf i).toNat)
          case atStart => exact ⟨0, Nat.zero_le _, rfl, by rw [HFh.out]; simpa [fbody] using F4.out, fun i hi => absurd hi (Nat.not_lt_zero _)⟩
          case round =>
            obtain ⟨j, hj, rfl, hF, hall⟩ := hrel
            have HAll := Lib.hid hall
            have hlen := fbody_take_len parts j (by rw [Hn.out]; exact hj) (fun i hi => HAll.out i (by omega))
            have HLf : Hid ((fhead W n).length = k + 2) := Lib.hid (by rw [HFh.out]; exact HFl.out)
            have hb2 : (fhead W n ++ fbody (parts.take j)).length ≤ 1048700 := by
              rw [List.length_append, HLf.out]
              have : 65540 * j ≤ 65540 * 16 := Nat.mul_le_mul_left _ (by omega)
              omega
            have HF := Lib.hid hF
            clear hall hlen
            by_cases hjn : j < n
            · obtain ⟨rfl, ha2⟩ := Ha.out (by omega)
              obtain ⟨pv, hpc, hBy, hW0⟩ := HP.out j (by rw [Hn.out]; exact hjn)
              have hc1 : wr.cell? ⟨sb, so + j, none⟩ = some pv := by rw [World.cell?_of_block (hF.grown.block sb ha2 (by simp))]; exact hpc
              have hft := fbody_take parts j (by rw [Hn.out]; exact hjn)
              obtain ⟨q, hq⟩ : ∃ q, q = parts.getD j [] := ⟨_, rfl⟩
              have HQm : Hid (q ∈ parts) := Lib.hid (by
                rw [hq, List.getD_eq_getElem?_getD, List.getElem?_eq_getElem (by rw [Hn.out]; exact hjn)]
                exact List.getElem_mem _)
              rw [← hq] at hBy hft
              have Hq := Lib.hid hq
              have HX : Hid (fhead W n ++ fbody (parts.take (j + 1)) = fhead W n ++ fbody (parts.take j) ++ be4 q.length ++ q) := Lib.hid (by rw [hft]; simp [List.append_assoc])
              have HBy := Lib.hid hBy
              have HW0 := Lib.hid hW0
              clear hq hft hW0 hF
              generalize fhead W n ++ fbody (parts.take j) = X at *
              obtain ⟨_, pa, psb, pso, pc, rfl, hpc2, _, _⟩ := hBy
              obtain ⟨ql, hql⟩ : ∃ ql, ql = q.length := ⟨_, rfl⟩
              have HQL := Lib.hid hql
              rw [← hql] at hpc hpc2 hc1 HBy HW0 HX
              clear hql hpc hpc2
              by_cases hbig : 65536 < ql
              · have d5 : decide ((65536 : Int) < (ql : Int)) = true := decide_eq_true (by omega)
                have E := Lib.hid (E3.out (.inr ⟨q, HQm.out, by rw [← HQL.out]; exact hbig⟩))
                clear hbig
                go_wp2
                go_ret2
                exact ⟨E.out _, HF.out.grown⟩
              · have d5 : decide ((65536 : Int) < (ql : Int)) = false := decide_eq_false (by omega)
                have hql : ql ≤ 65536 := by omega
                have HQ65 := Lib.hid hql
                have HBe := Lib.hid (be4_doc ql hql)
                have HB4 := Lib.hid (Bytes.lit (l := be4 ql) (alloc_at wr (Obj.cells (cellsL (be4 ql)).toArray 5)) (be4_lt ql))
                rw [HBe.out] at HB4
                clear hbig hql
                go_wp2_with (first
                  | (at_builtin; refine wpList_appB (by rfl) (.tmp 75) (.tmp 90) 22 (by rfl) wo.heap.size 5 (.int .u8 0) 1 Tryd.underlying22 (by kernel_rfl) rfl (by decide) _ _ _ (by rfl) (HF.out.own.alloc _) (.slice (some ⟨wr.heap.size, 0, none⟩) 4 4) (be4 ql) (by rfl) HB4.out (Whole0.some _ _ _) (by show X.length + 4 ≤ _; omega) (by have := HF.out.le; rw [alloc_size]; omega) ?_; intro v5 w5 ho5 hg5; have F5 := Lib.hid ((HF.out.alloc _).step (l' := X ++ be4 ql) ho5 hg5 (cellsL_append _ _).symm); clear ho5 hg5)
                  | (at_builtin; refine wpList_appB (by rfl) (.tmp 92) (.tmp 93) 22 (by rfl) wo.heap.size 5 (.int .u8 0) 1 Tryd.underlying22 (by kernel_rfl) rfl (by decide) v5 _ (cellsL (X ++ be4 ql)) (by rfl) F5.out.own _ q (by rfl) (HBy.out.grown F5.out.grown) HW0.out (by rw [List.length_append, ← HQL.out]; have := HQ65.out; show X.length + 4 + ql ≤ _; omega) F5.out.le ?_; intro v6 w6 ho6 hg6; have F6 := Lib.hid (F5.out.step (l' := X ++ be4 ql ++ q) ho6 hg6 (cellsL_append _ _).symm); clear ho6 hg6))
                go_roundw
                case rel =>
                  refine ⟨j + 1, by omega, by go_num, by rw [HX.out]; exact F6.out, fun i hi => ?_⟩
                  rcases Nat.lt_or_ge i j with h | h
                  · exact HAll.out i h
                  · obtain rfl : i = j := by omega
                    rw [← Hq.out, ← HQL.out]
                    exact HQ65.out
                case measure => simp [intOf]; omega
            · obtain rfl : j = n := by omega
              clear hF
              have HEnd : Hid (∀ w' v, FrW wo w' v (fhead W j ++ fbody (parts.take j)) → RfPost wo w' W parts (.returned (.tuple #[v, .int .i64 0]))) := Lib.hid (fun w' v h => by
                have e : fErr W parts = 0 := by
                  rw [fErr, if_neg (by rw [HwB.out]; simp), if_neg (by rw [Hn.out]; omega), if_neg]
                  rintro ⟨p, hp, hpl⟩
                  obtain ⟨i, hi, rfl⟩ := List.mem_iff_getElem.1 hp
                  have := HAll.out i (by rw [← Hn.out]; exact hi)
                  rw [List.getD_eq_getElem?_getD, List.getElem?_eq_getElem hi] at this
                  simp at this
                  omega
                refine ⟨_, by rw [e]; rfl, fun _ => ?_, fun h => absurd e h⟩
                rw [frameOf, Hn.out]
                rwa [List.take_of_length_le (by rw [Hn.out]; exact Nat.le_refl _)] at h)
              go_wp2
              go_ret2
              exact ⟨HEnd.out _ _ HF.out, HF.out.grown⟩
end Go.Proofs.YtgdnndapmcjoeaaDoor
