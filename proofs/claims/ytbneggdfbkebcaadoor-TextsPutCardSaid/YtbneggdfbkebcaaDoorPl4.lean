/- The walk of the law TextsPut, over what is asked of package texts. -/
import Derived.Test.YtbneggdfbkebcaaDoorPl0
import Derived.Test.YtbneggdfbkebcaaDoorSb
namespace Go.Proofs.YtbneggdfbkebcaaDoor
open Go.RowKit
set_option linter.unusedVariables false

theorem asked_le (l : List Nat) (most : Int) : Pt.asked l most = 0 ∨ Pt.asked l most = 2 ∨ Pt.asked l most = 3 ∨ Pt.asked l most = 8 := by
  unfold Pt.asked
  split
  · exact .inr (.inl rfl)
  · split
    · exact .inr (.inr (.inl rfl))
    · split
      · exact .inl rfl
      · exact .inr (.inr (.inr rfl))

set_option maxRecDepth 100000 in
set_option maxHeartbeats 2000000 in
theorem textsPut_any (A : Nat → Addr) (s : ByteArray) (most : Int) (hm : inT most) (w : World) (hE : AllErrs w A) (hF : TxFlags A w) (hPl : TxPlain w) (hLb : TxLabel w) (hPt : TxPut A w) (hGt : TxGet A w) :
    Calls Tryd.prog 3 #[.string s, .int .i64 most] w fun e w' => e = .returned (.bool true) ∧ w.grownBy w' none := by
  have HAl := Lib.hid (alive7_any A w hF)
  have HE := Lib.hid (fun W hW => hE.grown (w' := W) hW)
  by_cases h5 : 500 < s.size
  · clear hE hF hPl hLb hPt hGt
    go_enter Tryd.func3, Tryd.ntmps3
    go_wp2_with (go_at_call 7; refine HAl.out.mono ?_; rintro e w1 ⟨rfl, hg1⟩; have HG1 := Lib.hid hg1; clear hg1)
    go_ret
    exact ⟨rfl, HG1.out⟩
  have hs : s.size ≤ 1000 := by omega
  have hs2 : s.size ≤ 1000000 := by omega
  have HP := Lib.hid (fun W hW => hPl s W hs hW)
  have HL := Lib.hid (fun W hW => hLb s W hs hW)
  have HRP := Lib.hid (fun W => refPlain_any s hs2 W)
  have HRL := Lib.hid (fun W => refLabel_any s hs2 W)
  have HRA := Lib.hid (fun W => refAsked_any s most hs2 W)
  have hpt := fun W hW => hPt s most W hs hm hW
  have hgt := fun v W hW hB => hGt v s most W hs hm hW hB
  have hak := asked_le (strL s) most
  obtain ⟨n, hn⟩ : ∃ n, n = s.size := ⟨_, rfl⟩
  have hsz : (s.size : Int) = (n : Int) := by rw [hn]
  have HN := Lib.hid hn
  have hC : ∀ W x, Bytes W x (strL s) → (convert 24 9 x).run Tryd.prog W = .ok (.string s) W := fun W x hx => by
    have := conv_bytes (P := Tryd.prog) hx 24 5 9 Tryd.underlying24 Tryd.underlying5 Tryd.underlying9
    rw [strOf_strL] at this
    exact this
  have HC := Lib.hid hC
  have hn5 : n ≤ 500 := by omega
  generalize Pt.plain (strL s) = p at *
  generalize Pt.label (strL s) = q at *
  by_cases hk : Pt.asked (strL s) most = 0
  · rw [hk] at HRA
    simp only [if_pos hk] at hpt hgt
    rw [← hn] at hpt
    have hN0 := fun W hW => num_of A 0 (by decide) W (HE.out W hW)
    have e0 : errOf A 0 = .nilIface := rfl
    rw [e0] at hN0
    have HNm := Lib.hid hN0
    have HPt := Lib.hid hpt
    have HGt := Lib.hid hgt
    clear hE hF hPl hLb hPt hGt hpt hgt hak hk hN0 e0 hC hn hs hs2 h5 hm
    go_enter Tryd.func3, Tryd.ntmps3
    go_wp2_with (first
      | (go_at_call 7; refine HAl.out.mono ?_; rintro e w1 ⟨rfl, hg1⟩; have HG1 := Lib.hid hg1; clear hg1)
      | (go_at_call 8; refine (HP.out _ HG1.out).mono ?_; rintro e w2 ⟨hg2, rfl⟩; have HG2 := Lib.hid (grown_trans HG1.out hg2); clear hg2)
      | (go_at_call 9; refine (HRP.out _).mono ?_; rintro e w3 ⟨rfl, rfl⟩)
      | (go_at_call 10; refine (HL.out _ HG2.out).mono ?_; rintro e w4 ⟨hg4, rfl⟩; have HG4 := Lib.hid (grown_trans HG2.out hg4); clear hg4)
      | (go_at_call 11; refine (HRL.out _).mono ?_; rintro e w5 ⟨rfl, rfl⟩)
      | (go_at_call 12; refine (HPt.out _ HG4.out).mono ?_; rintro e w6 ⟨hg6, a, c, rfl, hB6⟩; have HG6 := Lib.hid (grown_trans HG4.out hg6); have HB6 := Lib.hid hB6; clear hg6 hB6)
      | (refine wpList_strBy (by rfl) 9 24 (.tmp 34) (by rfl) Tryd.underlying9 Tryd.underlying24 Tryd.underlying5 s (by rfl) ?_; intro c7 w7 hg7 hB7; rw [← HN.out] at hB7 ⊢; have HB7 := Lib.hid hB7; have HB6b := Lib.hid (HB6.out.grown hg7); have HG7 := Lib.hid (grown_trans HG6.out hg7); clear hg7 hB7)
      | (go_at_call 13; refine (HGt.out _ _ HG7.out HB7.out).mono ?_; rintro e w8 ⟨hg8, rfl⟩; have HG8 := Lib.hid (grown_trans HG7.out hg8); have HB8 := Lib.hid (HB6b.out.grown hg8); clear hg8)
      | (go_at_call 14; refine (HRA.out _).mono ?_; rintro e w9 ⟨rfl, hw⟩; rw [hw]; clear hw)
      | (go_at_call 15; with_reducible refine (HNm.out _ HG8.out).mono ?_; rintro e wa ⟨rfl, hga⟩; have HGa := Lib.hid (grown_trans HG8.out hga); have HBa := Lib.hid (HB8.out.grown hga); clear hga)
      | (go_at_call 15; with_reducible refine (HNm.out _ HGa.out).mono ?_; rintro e wb ⟨rfl, hgb⟩; have HGb := Lib.hid (grown_trans HGa.out hgb); have q1 := HC.out _ _ (HBa.out.grown hgb); clear hgb))
    go_ret
    exact ⟨retB7 (by simp), HGb.out⟩
  · have hk28 : Pt.asked (strL s) most ≤ 28 := by omega
    simp only [if_neg hk] at hpt hgt
    have hN := fun W hW => num_of A _ hk28 W (HE.out W hW)
    have hek : errOf A (Pt.asked (strL s) most) = errV A (Pt.asked (strL s) most) := by rw [errOf, if_neg hk]
    rw [hek] at hN
    generalize Pt.asked (strL s) most = k at *
    have hkn : ((k : Int) != 0) = true := by simp; omega
    have HNm := Lib.hid hN
    have HPt := Lib.hid hpt
    have HGt := Lib.hid hgt
    clear hE hF hPl hLb hPt hGt hpt hgt hak hk hN hek hC hn hs hs2 h5 hm hk28
    go_enter Tryd.func3, Tryd.ntmps3
    go_wp2_with (first
      | (go_at_call 7; refine HAl.out.mono ?_; rintro e w1 ⟨rfl, hg1⟩; have HG1 := Lib.hid hg1; clear hg1)
      | (go_at_call 8; refine (HP.out _ HG1.out).mono ?_; rintro e w2 ⟨hg2, rfl⟩; have HG2 := Lib.hid (grown_trans HG1.out hg2); clear hg2)
      | (go_at_call 9; refine (HRP.out _).mono ?_; rintro e w3 ⟨rfl, rfl⟩)
      | (go_at_call 10; refine (HL.out _ HG2.out).mono ?_; rintro e w4 ⟨hg4, rfl⟩; have HG4 := Lib.hid (grown_trans HG2.out hg4); clear hg4)
      | (go_at_call 11; refine (HRL.out _).mono ?_; rintro e w5 ⟨rfl, rfl⟩)
      | (go_at_call 12; refine (HPt.out _ HG4.out).mono ?_; rintro e w6 ⟨hg6, a, c, rfl⟩; have HG6 := Lib.hid (grown_trans HG4.out hg6); clear hg6)
      | (refine wpList_strBy (by rfl) 9 24 (.tmp 34) (by rfl) Tryd.underlying9 Tryd.underlying24 Tryd.underlying5 s (by rfl) ?_; intro c7 w7 hg7 hB7; rw [← HN.out] at hB7 ⊢; have HB7 := Lib.hid hB7; have HG7 := Lib.hid (grown_trans HG6.out hg7); clear hg7 hB7)
      | (go_at_call 13; refine (HGt.out _ _ HG7.out HB7.out).mono ?_; rintro e w8 ⟨hg8, rfl⟩; have HG8 := Lib.hid (grown_trans HG7.out hg8); clear hg8)
      | (go_at_call 14; refine (HRA.out _).mono ?_; rintro e w9 ⟨rfl, hw⟩; rw [hw]; clear hw)
      | (go_at_call 15; with_reducible refine (HNm.out _ HG8.out).mono ?_; rintro e wa ⟨rfl, hga⟩; have HGa := Lib.hid (grown_trans HG8.out hga); clear hga)
      | (go_at_call 15; with_reducible refine (HNm.out _ HGa.out).mono ?_; rintro e wb ⟨rfl, hgb⟩; have HGb := Lib.hid (grown_trans HGa.out hgb); clear hgb))
    go_ret
    exact ⟨retB7 (by simp), HGb.out⟩
end Go.Proofs.YtbneggdfbkebcaaDoor
