/- The walk of mac's Number. -/
import Derived.Test.YtndgbhgalablfaaDoorHm2
import Derived.Test.YtndgbhgalablfaaDoorMn2
import Derived.Test.YtndgbhgalablfaaDoorTx2
namespace Go.Proofs.YtndgbhgalablfaaDoor
open Go.RowKit

def NbPost (A : Nat → Addr) (l : List Nat) (e : Ending) : Prop :=
  if l.length = 16 then e = .returned (.tuple #[.string (strOf (hexL l)), .nilIface]) else e = .returned (.tuple #[.string ⟨#[]⟩, errV A 4])

set_option maxRecDepth 100000 in
set_option maxHeartbeats 1000000 in
theorem number16_any (A : Nat → Addr) (v : Value) (l : List Nat) (w : World) (hB : Bytes w v l) (hl : l.length ≤ 1099511620000) (hE : AllErrs w A) :
    Calls Tryd.prog 17 #[v] w fun e w' => NbPost A l e ∧ w.grownBy w' none := by
  have HED : Hid (∀ W, w.grownBy W none → W.cell? ⟨4, 0, none⟩ = some (errV A 4)) := Lib.hid (fun W hW => by
    have e4 := errs_at (hE.grown hW) 4 (by decide)
    simp only [errVars, List.getD_cons_zero, List.getD_cons_succ, Nat.add_one_sub_one] at e4
    exact e4)
  have HB := Lib.hid hB
  obtain ⟨_, va, vsb, vso, vc, rfl, _⟩ := hB
  obtain ⟨n, hn⟩ : ∃ n, n = l.length := ⟨_, rfl⟩
  have HN := Lib.hid hn
  rw [← hn] at HB hl ⊢
  clear hE hn
  by_cases h16 : n = 16
  · subst h16
    have HX : Hid (∀ e, e = Ending.returned (.tuple #[.string (strOf (hexL l)), .nilIface]) → NbPost A l e) := Lib.hid (fun e h => by unfold NbPost; rw [if_pos HN.out.symm]; exact h)
    obtain ⟨d, hd⟩ : ∃ d, d = l ++ List.replicate 16 0 := ⟨_, rfl⟩
    have hdl : d.length = 32 := by rw [hd, List.length_append, ← HN.out]; rfl
    have hdt : ∀ x ∈ d, x < 256 := by
      rw [hd]
      intro x hx
      rcases List.mem_append.1 hx with h | h
      · exact HB.out.lt x h
      · rw [List.eq_of_mem_replicate h]; decide
    have hd16 : d.take 16 = l := by rw [hd, List.take_left' HN.out.symm]
    have HTx := Lib.hid (text_any d hdl hdt)
    obtain ⟨X, hX⟩ : ∃ X, X = strOf (hexL d) := ⟨_, rfl⟩
    have hs1 := id_slice d hdl X hX
    have hs2 := id_slice' d hdl X hX
    rw [hd16] at hs1 hs2
    rw [← hX] at HTx
    obtain ⟨Y, hY⟩ : ∃ Y, Y = strOf (hexL l) := ⟨_, rfl⟩
    rw [← hY] at hs1 hs2 HX
    obtain ⟨D, hD⟩ : ∃ D, D = bytesV d := ⟨_, rfl⟩
    have hDl : D.size = 32 := by rw [hD, bytesV_size, hdl]
    have HI : Hid ((Tryd.prog.info? 32).map (·.size) = some D.size) := by rw [hDl]; exact Lib.hid (by kernel_rfl)
    have HDd : Hid (bytesV (l ++ (List.replicate 32 0).drop l.length) = D) := Lib.hid (by rw [hD, hd, ← HN.out]; rfl)
    rw [← hD] at HTx
    have hz32 := zeros32_at w
    have hl16 : l.length ≤ 32 := by rw [← HN.out]; decide
    have HL16 := Lib.hid hl16
    have hzl : (List.replicate 32 0 : List Nat).length = 32 := rfl
    have HZl := Lib.hid hzl
    clear hd hdl hdt hd16 hX hY hD hDl hl16 hzl
    go_enter Tryd.func17, Tryd.ntmps17
    go_wp2_with (first
      | (refine wpList_copyB (by rfl) (.tmp 9) (.tmp 10) 22 22 (by rfl) Tryd.underlying22 (by kernel_rfl) (b := w.heap.size) (N := 32) (Z := List.replicate 32 0) (l := l) (T := 32) (v := .slice va 16 vc) (by rfl) (by rfl) (alloc_at w _) HZl.out (HB.out.grown (World.grownBy_alloc _ _ _)) HL16.out ?_; intro w2 hb2 hg2; rw [HDd.out] at hb2; have B2 := Lib.hid hb2; have G2 : Hid (w.grownBy w2 none) := Lib.hid (grown_forget (World.grownBy_alloc w _ none) (Nat.le_refl _) hg2); clear hb2 hg2)
      | (refine wpList_load_row (by rfl) 32 (.tmp 4) (by rfl) w.heap.size (by rfl) _ D (0, 0) _ B2.out Tryd.underlying32 (by rfl) HI.out ?_)
      | (go_at_call 40; refine (HTx.out w2).mono ?_; rintro e w3 ⟨rfl, hg3⟩; have G3 := Lib.hid hg3; clear hg3))
    go_ret2
    exact ⟨HX.out _ rfl, grown_trans G2.out G3.out⟩
  · have HX : Hid (∀ e, e = Ending.returned (.tuple #[.string ⟨#[]⟩, errV A 4]) → NbPost A l e) := Lib.hid (fun e h => by unfold NbPost; rw [if_neg (by rw [← HN.out]; exact h16)]; exact h)
    have d1 : ((n : Int) != 16) = true := by simp; omega
    have eF := HED.out w (grown_refl _ _)
    go_enter Tryd.func17, Tryd.ntmps17
    go_wp2
    go_quiet (fail)
    go_wp2
    go_ret2
    exact ⟨HX.out _ rfl, grown_drewN (grown_refl _ _) _⟩
end Go.Proofs.YtndgbhgalablfaaDoor
