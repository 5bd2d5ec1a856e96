/- A key's number: mac.ID and bullaref02.ID. -/
import Derived.Test.YtckdkcfhkakcfaaDoorHm9
namespace Go.Proofs.YtckdkcfhkakcfaaDoor
open Go.RowKit

theorem hexL_take2 (l : List Nat) : ∀ k, hexL (l.take k) = (hexL l).take (2 * k) := by
  induction l with
  | nil => intro k; simp [hexL]
  | cons a r ih =>
    intro k
    match k with
    | 0 => simp [hexL]
    | k + 1 =>
      rw [show 2 * (k + 1) = 2 * k + 1 + 1 by omega]
      simp [hexL, ih k]
theorem strOf_take (l : List Nat) (n : Nat) : (strOf l).extract 0 n = strOf (l.take n) := by
  apply ByteArray.ext
  simp [strOf, ByteArray.data_extract, List.map_take]

/-- The number's text. -/
def idText (k : List Nat) : ByteArray := strOf (hexL ((Hm.hmac k [2, 105, 100, 0]).take 16))

theorem id_slice (d : List Nat) (hd : d.length = 32) (X : ByteArray) (hX : X = strOf (hexL d)) (W : World) : (Instr.slice 9 (.string X) none (some (.int .i64 32)) none).run Tryd.prog W = .ok (.string (strOf (hexL (d.take 16)))) W := by
  have hs : X.size = 64 := by rw [hX, strOf_size, hexL_len, hd]
  rw [run_slice_string_to_if (P := Tryd.prog) W 9 X .i64 32 Tryd.underlying9, if_pos (by rw [hs]; decide)]
  rw [hexL_take2, ← strOf_take, hX]
  rfl
theorem id_slice' (d : List Nat) (hd : d.length = 32) (X : ByteArray) (hX : X = strOf (hexL d)) (W : World) : (Instr.sliceAt 9 (.string X) none (some (.int .i64 32)) none).run Tryd.prog W = .ok (.string (strOf (hexL (d.take 16)))) W := by
  rw [run_sliceAt_string _ _ _ _ _ _ Tryd.underlying9]
  exact id_slice d hd X hX W

theorem id_word : fErr (strL ⟨#[105, 100]⟩) [] = 0 := by decide
theorem id_frame : frameOf (strL ⟨#[105, 100]⟩) [] = [2, 105, 100, 0] := by decide
theorem id_frames (w : World) (eT eL : Value) (hE : Errs w eT eL) : Calls Tryd.prog 33 #[.string ⟨#[105, 100]⟩, .slice none 0 0] w fun e w'' => ∃ v, e = .returned (.tuple #[v, .nilIface]) ∧ FrW w w'' v [2, 105, 100, 0] :=
  (frame_any ⟨#[105, 100]⟩ [] none 0 0 0 0 rfl w (fun h => absurd h (Nat.lt_irrefl _)) (fun i hi => absurd hi (Nat.not_lt_zero _)) (by decide) (by decide) eT eL hE).mono (by
    rintro e w' ⟨hg, v, u, rfl, h⟩
    rcases h with ⟨_, rfl, hW⟩ | ⟨h, _⟩ | ⟨h, _⟩
    · rw [id_frame] at hW; exact ⟨v, rfl, hW⟩
    · rw [id_word] at h; cases h
    · rw [id_word] at h; cases h)

theorem hmac_len (k t : List Nat) : (Hm.hmac k t).length = 32 := Sha.sum_len _
theorem hmac_lt (k t : List Nat) : ∀ x ∈ Hm.hmac k t, x < 256 := sum_lt' _

set_option maxRecDepth 100000 in
set_option maxHeartbeats 400000 in
theorem macID_any (vk : Value) (k : List Nat) (w : World) (hK : Bytes w vk k) (hk : k.length < 1152921504606846000) (hL : Laid w) (eT eL : Value) (hE : Errs w eT eL) :
    Calls Tryd.prog 31 #[vk] w fun e w' => e = .returned (.string (idText k)) ∧ w.grownBy w' none := by
  have hz32 := zeros32_at w
  obtain ⟨d, hd⟩ : ∃ d, d = Hm.hmac k [2, 105, 100, 0] := ⟨_, rfl⟩
  have hdl : d.length = 32 := by rw [hd, hmac_len]
  have hdt : ∀ x ∈ d, x < 256 := by rw [hd]; exact hmac_lt _ _
  obtain ⟨Y, hY⟩ : ∃ Y, Y = idText k := ⟨_, rfl⟩
  have hY' : strOf (hexL (d.take 16)) = Y := by rw [hY, idText, hd]
  have HT := tagged_ok vk k ⟨#[105, 100]⟩ (.slice none 0 0) [2, 105, 100, 0] w hK hk (by decide) id_lt hL (fun w' hg => id_frames w' eT eL (hE.grown hg))
  rw [← hd] at HT
  have HTx := text_any d hdl hdt
  obtain ⟨X, hX⟩ : ∃ X, X = strOf (hexL d) := ⟨_, rfl⟩
  have hs1 := id_slice d hdl X hX
  have hs2 := id_slice' d hdl X hX
  rw [hY'] at hs1 hs2
  rw [← hX] at HTx
  obtain ⟨D, hD⟩ : ∃ D, D = bytesV d := ⟨_, rfl⟩
  have hDl : D.size = 32 := by rw [hD, bytesV_size, hdl]
  have HI : Hid ((Tryd.prog.info? 27).map (·.size) = some D.size) := by rw [hDl]; exact Lib.hid (by kernel_rfl)
  have HI4 : Hid (zeros32.size = D.size) := by rw [hDl]; exact Lib.hid rfl
  have HO : Hid (D.all (·.oneCell') = true) := by rw [hD]; exact Lib.hid (bytesV_one _)
  rw [← hD] at HT
  rw [← hD] at HTx
  rw [← hY]
  have HT' := Lib.hid HT
  have HTx' := Lib.hid HTx
  clear hd hdl hdt hY hY' hX hD hDl HT HTx hK hk hL hE
  go_enter Tryd.func31, Tryd.ntmps31
  go_wp2_with (first
    | (go_at_call 35; refine HT'.out.mono ?_; rintro e w1 ⟨rfl, hg1⟩; have G1 := Lib.hid hg1; have Z1 := Lib.hid (alloc_at w1 (.cells zeros32 27)); clear hg1)
    | (refine wpList_store_row (by rfl) 27 (.tmp 3) (.tmp 8) (by rfl) w1.heap.size D (by rfl) (by rfl) _ _ Z1.out HI.out HI4.out HO.out ?_; obtain ⟨W2, hW2⟩ : ∃ W2, W2 = (w1.alloc (.cells zeros32 27)).setRow w1.heap.size D := ⟨_, rfl⟩; rw [← hW2]; have g2 : Hid (w1.grownBy W2 none) := Lib.hid (by rw [hW2]; exact grown_setRow (World.grownBy_alloc _ _ _) (Nat.le_refl _) _); have b2 : Hid (W2.heap[w1.heap.size]? = some (.cells D 27 (0, 0))) := Lib.hid (by rw [hW2]; exact setRow_heap _ _ _ _ _ _ Z1.out); clear hW2)
    | (refine wpList_load_row (by rfl) 27 (.tmp 3) (by rfl) w1.heap.size (by rfl) _ D (0, 0) _ b2.out Tryd.underlying27 (by rfl) HI.out ?_)
    | (go_at_call 17; refine (HTx'.out W2).mono ?_; rintro e w3 ⟨rfl, hg3⟩; have G3 := Lib.hid hg3; clear hg3))
  go_ret
  exact ⟨rfl, grown_trans G1.out (grown_trans g2.out G3.out)⟩

set_option maxRecDepth 100000 in
set_option maxHeartbeats 400000 in
theorem refID_any (vk : Value) (k : List Nat) (w : World) (hK : Bytes w vk k) (hK0 : Whole0 vk) (hk : k.length < 1099511620000) :
    Calls Tryd.prog 32 #[vk] w fun e w' => e = .returned (.string (idText k)) ∧ w.grownBy w' none := by
  have hz32 := zeros32_at w
  obtain ⟨d, hd⟩ : ∃ d, d = Hm.hmac k [2, 105, 100, 0] := ⟨_, rfl⟩
  have hdl : d.length = 32 := by rw [hd, hmac_len]
  have hdt : ∀ x ∈ d, x < 256 := by rw [hd]; exact hmac_lt _ _
  obtain ⟨Y, hY⟩ : ∃ Y, Y = idText k := ⟨_, rfl⟩
  have HT := refTagged_id vk k w hK hK0 hk
  rw [← hd] at HT
  obtain ⟨D, hD⟩ : ∃ D, D = bytesV d := ⟨_, rfl⟩
  have hDl : D.size = 32 := by rw [hD, bytesV_size, hdl]
  have HI : Hid ((Tryd.prog.info? 27).map (·.size) = some D.size) := by rw [hDl]; exact Lib.hid (by kernel_rfl)
  have HI4 : Hid (zeros32.size = D.size) := by rw [hDl]; exact Lib.hid rfl
  have HO : Hid (D.all (·.oneCell') = true) := by rw [hD]; exact Lib.hid (bytesV_one _)
  have HX : Hid (∀ (w' : World) (g : Nat), w'.heap[g]? = some (.cells D 27 (0, 0)) → Calls Tryd.prog 18 #[.slice (some ⟨g, 0, none⟩) 16 32] w' fun e w'' => e = .returned (.string Y) ∧ w'.grownBy w'' none) := Lib.hid (fun w' g hb => by
    rw [hD] at hb
    have hl16 : (d.take 16).length = 16 := by rw [List.length_take, hdl]; rfl
    have hB : Bytes w' (.slice (some ⟨g, 0, none⟩) 16 32) (d.take 16) := ⟨fun x hx => hdt x (List.mem_of_mem_take hx), some ⟨g, 0, none⟩, g, 0, 32, by rw [hl16], by rw [hl16]; decide, fun _ => ⟨rfl, blk_lt hb⟩, fun j hj => by
      rw [hl16] at hj
      rw [Nat.zero_add, cell_blk hb j (bytesV_at d j (by omega))]
      congr 3
      simp [List.getElem?_take, hj]⟩
    have := refText_any _ _ w' hB (by rw [hl16]; decide)
    rw [hY, idText, ← hd]
    exact this)
  rw [← hD] at HT
  rw [← hY]
  have HT' := Lib.hid HT
  clear hd hdl hdt hY hD hDl HT hK hK0 hk
  go_enter Tryd.func32, Tryd.ntmps32
  go_wp2_with (first
    | (go_at_call 53; refine HT'.out.mono ?_; rintro e w1 ⟨rfl, hg1⟩; have G1 := Lib.hid hg1; have Z1 := Lib.hid (alloc_at w1 (.cells zeros32 27)); clear hg1)
    | (refine wpList_store_row (by rfl) 27 (.tmp 3) (.tmp 5) (by rfl) w1.heap.size D (by rfl) (by rfl) _ _ Z1.out HI.out HI4.out HO.out ?_; obtain ⟨W2, hW2⟩ : ∃ W2, W2 = (w1.alloc (.cells zeros32 27)).setRow w1.heap.size D := ⟨_, rfl⟩; rw [← hW2]; have g2 : Hid (w1.grownBy W2 none) := Lib.hid (by rw [hW2]; exact grown_setRow (World.grownBy_alloc _ _ _) (Nat.le_refl _) _); have b2 : Hid (W2.heap[w1.heap.size]? = some (.cells D 27 (0, 0))) := Lib.hid (by rw [hW2]; exact setRow_heap _ _ _ _ _ _ Z1.out); clear hW2)
    | (go_at_call 18; refine (HX.out W2 w1.heap.size b2.out).mono ?_; rintro e w3 ⟨rfl, hg3⟩; have G3 := Lib.hid hg3; clear hg3))
  go_ret
  exact ⟨rfl, grown_trans G1.out (grown_trans g2.out G3.out)⟩
end Go.Proofs.YtckdkcfhkakcfaaDoor
