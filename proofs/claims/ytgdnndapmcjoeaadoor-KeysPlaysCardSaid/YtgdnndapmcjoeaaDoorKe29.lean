import Derived.Test.YtgdnndapmcjoeaaDoorKe08
import Derived.Test.YtgdnndapmcjoeaaDoorKe21
import Derived.Test.YtgdnndapmcjoeaaDoorKe28
namespace Go.Proofs.YtgdnndapmcjoeaaDoor
open Go.RowKit
set_option linter.unusedVariables false
theorem errs_of_all2 {w : World} {A : Nat → Addr} (h : AllErrs w A) : Errs w (errV A 8) (errV A 3) := by
  have e8 := errs_at h 8 (by decide)
  have e3 := errs_at h 3 (by decide)
  simp only [errVars, List.getD_cons_zero, List.getD_cons_succ, Nat.add_one_sub_one] at e8 e3
  exact ⟨e8, e3, h.lt 7 (by decide), h.lt 2 (by decide)⟩
theorem frame_short {W : List Nat} {parts : List (List Nat)} (h : fErr W parts = 0) : (frameOf W parts).length ≤ 2000000 := by
  obtain ⟨h1, h2, h3⟩ := parts_of_fErr h
  have hb := fbody_len parts h1
  have : 65540 * parts.length ≤ 65540 * 16 := Nat.mul_le_mul_left _ h2
  rw [frameOf, List.length_append, fhead]
  simp only [List.length_cons, List.length_append, List.length_nil]
  omega
theorem getD_of_mem {α : Type} {l : List α} {p d : α} (h : p ∈ l) : ∃ i, i < l.length ∧ l.getD i d = p := by
  obtain ⟨i, hi, rfl⟩ := List.getElem_of_mem h
  exact ⟨i, hi, by simp [List.getD_eq_getElem?_getD, hi]⟩
theorem PartsW.lt {w : World} {sb so : Nat} {parts : List (List Nat)} (h : PartsW w sb so parts) : ∀ p ∈ parts, ∀ x ∈ p, x < 256 := fun p hp => by
  obtain ⟨i, hi, rfl⟩ := getD_of_mem (d := []) hp
  obtain ⟨_, _, hBy, _⟩ := h i hi
  exact hBy.lt
/-- mac.Tagged. -/
def tagOut (A : Nat → Addr) (k W : List Nat) (parts : List (List Nat)) : Value := if fErr W parts = 0 then .tuple #[.agg (bytesV (Hm.hmac k (frameOf W parts))), .nilIface] else .tuple #[.agg zeros32, errV A (fErr W parts)]
theorem macTag_any {A : Nat → Addr} (vk : Value) (k : List Nat) (s : ByteArray) (parts : List (List Nat)) (a : Option Addr) (sb so n c : Nat) (hn : parts.length = n) (w : World) (hK : Bytes w vk k) (hk : k.length < 1152921504606846000) (ha : 0 < n → a = some ⟨sb, so, none⟩ ∧ sb < w.heap.size) (hP : PartsW w sb so parts)
    (hs : s.size ≤ 1099511620000) (hnn : n ≤ 1099511620000) (hL : Laid w) (hE : AllErrs w A) :
    Calls Tryd.prog 29 #[vk, .string s, .slice a n c] w fun e w' => e = .returned (tagOut A k (strL s) parts) ∧ w.grownBy w' none := by
  have hFr : ∀ W, w.grownBy W none → Calls Tryd.prog 42 #[.string s, .slice a n c] W (FramePost W s parts (errV A 8) (errV A 3)) := fun W hW =>
    frame_any s parts a sb so n c hn W (fun h => ⟨(ha h).1, Nat.lt_of_lt_of_le (ha h).2 hW.size⟩) (hP.grown (fun h => (ha (by rw [← hn]; exact h)).2) hW) hs hnn _ _ (errs_of_all2 (hE.grown hW))
  by_cases h0 : fErr (strL s) parts = 0
  · have e0 : tagOut A k (strL s) parts = .tuple #[.agg (bytesV (Hm.hmac k (frameOf (strL s) parts))), .nilIface] := by unfold tagOut; rw [if_pos h0]
    rw [e0]
    refine tagged_ok vk k s _ (frameOf (strL s) parts) w hK hk (by have := frame_short h0; omega) (frame_lt _ _ h0 (strL_lt s) hP.lt) hL (fun W hW => (hFr W hW).mono ?_)
    rintro e w' ⟨hg, v, u, rfl, h⟩
    rw [h0] at h
    rcases h with ⟨_, rfl, h⟩ | ⟨h, _⟩ | ⟨h, _⟩
    · exact ⟨v, rfl, h⟩
    · cases h
    · cases h
  · have e0 : tagOut A k (strL s) parts = .tuple #[.agg zeros32, errV A (fErr (strL s) parts)] := by unfold tagOut; rw [if_neg h0]
    rw [e0]
    unfold errV
    refine tagged_err vk s _ _ _ w (fun W hW => (hFr W hW).mono ?_)
    rintro e w' ⟨hg, v, u, rfl, h⟩
    rcases h with ⟨h, _⟩ | ⟨h, rfl, rfl⟩ | ⟨h, rfl, rfl⟩
    · exact absurd h h0
    · rw [h]; exact ⟨rfl, hg⟩
    · rw [h]; exact ⟨rfl, hg⟩
set_option maxRecDepth 100000 in
set_option maxHeartbeats 400000 in
theorem refTag_any (vk : Value) (k : List Nat) (s : ByteArray) (parts : List (List Nat)) (a : Option Addr) (sb so n c : Nat) (hn : parts.length = n) (w : World) (hK : Bytes w vk k) (hK0 : Whole0 vk) (hk : k.length < 1099511620000) (ha : 0 < n → a = some ⟨sb, so, none⟩ ∧ sb < w.heap.size) (hP : PartsW w sb so parts)
    (hs : s.size ≤ 1099511620000) (hnn : n ≤ 1099511620000) (h0 : fErr (strL s) parts = 0) :
    Calls Tryd.prog 22 #[vk, .string s, .slice a n c] w fun e w' => e = .returned (.agg (bytesV (Hm.hmac k (frameOf (strL s) parts)))) ∧ w.grownBy w' none := by
  have hz32 := zeros32_at w
  obtain ⟨w0, hw0⟩ : ∃ w0, w0 = w.alloc (.cells zeros32 64) := ⟨_, rfl⟩
  have B0 : Hid (w0.heap[w.heap.size]? = some (.cells zeros32 64 (0, 0))) := Lib.hid (by rw [hw0]; exact alloc_at _ _)
  have G0 : Hid (w.grownBy w0 none) := Lib.hid (by rw [hw0]; exact World.grownBy_alloc _ _ _)
  have HW0 := Lib.hid hw0
  have hg0 := G0.out
  obtain ⟨F, hF⟩ : ∃ F, F = frameOf (strL s) parts := ⟨_, rfl⟩
  have hFlt : ∀ x ∈ F, x < 256 := by rw [hF]; exact frame_lt _ _ h0 (strL_lt s) hP.lt
  have hFl : F.length ≤ 2000000 := by rw [hF]; exact frame_short h0
  have HFr : Hid (Calls Tryd.prog 20 #[.string s, .slice a n c] w0 fun e w' => ∃ v, e = .returned (.tuple #[v, .int .i64 0]) ∧ FrW w0 w' v F) := Lib.hid ((refFrame_any s parts a sb so n c hn w0 (fun h => ⟨(ha h).1, Nat.lt_of_lt_of_le (ha h).2 hg0.size⟩) (hP.grown (fun h => (ha (by rw [← hn]; exact h)).2) hg0) hs hnn).mono (by
    rintro e w' ⟨⟨v, rfl, h1, _⟩, hg⟩
    have h1' := h1 h0
    rw [h0]
    rw [← hF] at h1'
    exact ⟨v, rfl, h1'⟩))
  rw [← hF]
  obtain ⟨D, hD⟩ : ∃ D, D = bytesV (Hm.hmac k F) := ⟨_, rfl⟩
  have hDl : D.size = 32 := by rw [hD, bytesV_size, Hm.hmac, Sha.sum_len]
  have hDo : D.all (·.oneCell') = true := by rw [hD]; exact bytesV_one _
  have HM : Hid (∀ (w' : World) (x : Value), w.grownBy w' none → Bytes w' x F → Whole0 x → Calls Tryd.prog 35 #[vk, x] w' fun e w'' => e = .returned (.agg D) ∧ w'.grownBy w'' none) := Lib.hid (fun w' x hg hx h0 => by
    rw [hD]
    exact refHmac_any vk x k _ w' (hK.grown hg) hK0 hk hx h0 (by omega))
  rw [← hD]
  have HI : Hid ((Tryd.prog.info? 64).map (·.size) = some D.size) := by rw [hDl]; exact Lib.hid (by kernel_rfl)
  have HI4 : Hid (zeros32.size = D.size) := by rw [hDl]; exact Lib.hid rfl
  have HO := Lib.hid hDo
  have HFl := Lib.hid hFlt
  clear hw0 hD hDl hDo hK hK0 hk hF hFlt hFl hg0 ha hP hs hnn h0 hn
  go_enter Tryd.func22, Tryd.ntmps22
  go_wp2_with (first
    | (go_at_call 20; rw [← HW0.out]; refine HFr.out.mono ?_; rintro e w1 ⟨v1, rfl, hF1⟩; have F1 := Lib.hid hF1; clear hF1)
    | (go_at_call 35; refine (HM.out w1 v1 (grown_trans G0.out F1.out.grown) (Bytes.own F1.out.own HFl.out) (Whole0.own F1.out.own)).mono ?_; rintro e w2 ⟨rfl, hg2⟩; have G2 := Lib.hid (grown_trans F1.out.grown hg2); have B2 := Lib.hid ((G2.out.block _ (blk_lt B0.out) (by simp)).trans B0.out); clear hg2)
    | (refine wpList_store_row (by rfl) 64 (.tmp 6) (.tmp 17) (by rfl) w.heap.size D (by rfl) (by rfl) _ _ B2.out HI.out HI4.out HO.out ?_))
  refine bodyPost_ret (v := .agg D) ?_ rfl ⟨rfl, grown_setRow (grown_trans G0.out G2.out) (Nat.le_refl _) _⟩
  exact results_cell_row Tryd.results22 _ _ w.heap.size _ _ (0, 0) _ rfl (setRow_heap _ _ _ D _ _ B2.out) Tryd.underlying64 rfl HI.out
end Go.Proofs.YtgdnndapmcjoeaaDoor
