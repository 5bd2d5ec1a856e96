/- The walks of the library's IsSortedFunc over bytes.Compare, and of package texts' Sorted. -/
import Derived.Test.YtbneggdfbkebcaaDoorPl5
import Derived.Test.YtbneggdfbkebcaaDoorBc
import Derived.Deep.QuietTactic
import Derived.BigQuiet
namespace Go.Proofs.YtbneggdfbkebcaaDoor
open Go.RowKit
set_option linter.unusedVariables false

/-- bytes.Compare as a value. -/
abbrev cmpV : Value := .func (.func 35) #[] #[]
set_option maxRecDepth 100000 in
set_option maxHeartbeats 2000000 in
theorem isSorted_any (a : Option Addr) (n c : Nat) (ys : List Value) (L : List (List Nat)) (w : World) (hV : Vals w (.slice a n c) ys) (hE : Each w ys L) (h20 : n ≤ 20) :
    Calls Tryd.prog 37 #[.slice a n c, cmpV] w fun e w' => e = .returned (.bool (decide (Pt.sort L = L))) ∧ w.grownBy w' none := by
  have hln : L.length = n := by rw [← hE.len]; exact hV.cap.1.symm
  obtain ⟨R, hR⟩ : ∃ R, R = decide (Pt.sort L = L) := ⟨_, rfl⟩
  rw [← hR]
  have HT : Hid ((∀ k, k + 1 < n → Cal.lex (L.getD (k + 1) []) (L.getD k []) = false) → R = true) := Lib.hid (fun h => by
    rw [hR, decide_eq_true_iff, ← Pt.sorted_iff, Pt.sorted_adj, hln]; exact h)
  have HF : Hid (∀ k, k + 1 < n → Cal.lex (L.getD (k + 1) []) (L.getD k []) = true → R = false) := Lib.hid (fun k hk h => by
    rw [hR, decide_eq_false_iff_not, ← Pt.sorted_iff, Pt.sorted_adj, hln]
    intro h2
    rw [h2 k hk] at h
    cases h)
  have hlt : ∀ k, k < n → ∀ x ∈ L.getD k [], x < 256 := fun k hk x hx => hE.lt x (by
    rw [List.mem_flatten]
    refine ⟨L.getD k [], ?_, hx⟩
    rw [List.getD_eq_getElem?_getD, List.getElem?_eq_getElem (by omega)]
    exact List.getElem_mem _)
  have HC : Hid (∀ k, k + 1 < n → decide (Bc.cmp (L.getD (k + 1) []) (L.getD k []) < 0) = Cal.lex (L.getD (k + 1) []) (L.getD k [])) := Lib.hid (fun k hk => Bc.cmp_lex (hlt _ hk) (hlt _ (by omega)))
  obtain ⟨a1, sb, so, c1, he, hc, ha, hcell⟩ := hV
  simp only [Value.slice.injEq] at he
  obtain ⟨rfl, hny, rfl⟩ := he
  rw [← hny] at hc ha
  have HIn : Hid (∀ W, w.grownBy W none → ∀ j, j < n → a = some ⟨sb, so, none⟩ ∧ ∃ y, W.cell? ⟨sb, so + j, none⟩ = some y ∧ Bytes W y (L.getD j []) ∧ Whole0 y) := Lib.hid (fun W hW j hj => by
    obtain ⟨y, h1, h2, h3⟩ := hE.at_ j (by omega)
    exact ⟨(ha (by omega)).1, _, by rw [World.cell?_of_block (hW.block sb (ha (by omega)).2 (by simp))]; exact hcell j _ h1, h2.grown hW, h3⟩)
  clear hE ha hcell hny hln hlt hR
  go_enter Tryd.func37, Tryd.ntmps37
  go_wp2
  go_loopw [5] (fun i wr => ∃ iz : Int, i = .int .i64 iz ∧ iz ≤ (n : Int) - 1 ∧ -1 ≤ iz ∧ (∀ j : Nat, iz ≤ (j : Int) → j + 1 < n → Cal.lex (L.getD (j + 1) []) (L.getD j []) = false) ∧ w.grownBy wr none) (fun i _ => (intOf i).toNat)
  case atStart => exact ⟨(n : Int) - 1, by go_num, by omega, by omega, fun j h1 h2 => by omega, grown_refl _ _⟩
  case round =>
    obtain ⟨iz, rfl, hi1, hi2, hall, hgr⟩ := hrel
    have HAll := Lib.hid hall
    have HGr := Lib.hid hgr
    clear hall
    by_cases hp : 0 < iz
    · obtain ⟨m, rfl⟩ : ∃ m : Nat, iz = (m : Int) + 1 := ⟨(iz - 1).toNat, by omega⟩
      have hm : m + 1 < n := by omega
      obtain ⟨rfl, y1, hy1, hb1, hw1⟩ := HIn.out wr hgr (m + 1) hm
      obtain ⟨_, y0, hy0, hb0, hw0⟩ := HIn.out wr hgr m (by omega)
      have HX : Hid (∀ q, Calls Tryd.prog 35 #[y1, y0] (wr.drewN q) fun e w' => e = .returned (.int .i64 (Bc.cmp (L.getD (m + 1) []) (L.getD m []))) ∧ w' = wr.drewN q) := Lib.hid (fun q => compareB_any _ _ _ _ _ (hb1.grown (grown_drewN (grown_refl _ _) q)) (hb0.grown (grown_drewN (grown_refl _ _) q)) hw1 hw0)
      have hcm := HC.out m hm
      have hmz : (m : Int) + 1 < (n : Int) := by omega
      clear hb1 hb0 hgr
      generalize Bc.cmp (L.getD (m + 1) []) (L.getD m []) = z at *
      cases hlx : Cal.lex (L.getD (m + 1) []) (L.getD m []) with
      | true =>
        rw [hlx] at hcm
        have hz : z < 0 := of_decide_eq_true hcm
        have hR := HF.out m hm hlx
        subst hR
        clear hcm hlx
        go_wp2
        go_quiet ((go_at_call 35; exact Calls.quiet_of_same (HX.out _)))
        go_wp2
        go_ret
        exact ⟨rfl, grown_drewN HGr.out _⟩
      | false =>
        rw [hlx] at hcm
        have hz : ¬ z < 0 := of_decide_eq_false hcm
        have HLx := Lib.hid hlx
        clear hcm hlx
        go_wp2
        go_quiet ((go_at_call 35; exact Calls.quiet_of_same (HX.out _)))
        go_wp2
        go_roundw
        case rel => exact ⟨(m : Int), rfl, by omega, by omega, fun j h1 h2 => by
          by_cases hj : j = m
          · subst hj; exact HLx.out
          · exact HAll.out j (by omega) h2, grown_drewN HGr.out _⟩
        case measure => simp [intOf]
    · have hR := HT.out (fun j hj => HAll.out j (by omega) hj)
      subst hR
      go_wp2
      go_ret
      exact ⟨rfl, HGr.out⟩
set_option maxRecDepth 100000 in
theorem sorted_any (w : World) : TxSorted w := by
  intro a n c ys L W h20 h100 hg hV hE h0
  have hS := isSorted_any a n c ys L W hV hE h20
  clear hV hE h0
  go_enter Tryd.func25, Tryd.ntmps25
  go_wp2_with (go_at_call 37; refine hS.mono ?_; rintro e w2 ⟨rfl, hg2⟩; have HG2 := Lib.hid hg2; clear hg2)
  go_ret
  exact ⟨rfl, HG2.out⟩
end Go.Proofs.YtbneggdfbkebcaaDoor
