/- The walk of the law's alive (mac). -/
import Derived.Test.YtndgbhgalablfaaDoorMs5
namespace Go.Proofs.YtndgbhgalablfaaDoor
open Go.RowKit

theorem frame_lt (W : List Nat) (parts : List (List Nat)) (h0 : fErr W parts = 0) (hW : ∀ x ∈ W, x < 256) (hp : ∀ p ∈ parts, ∀ x ∈ p, x < 256) : ∀ x ∈ frameOf W parts, x < 256 := by
  have hw : wordB W = true := by
    cases h : wordB W
    · rw [fErr, if_pos h] at h0; cases h0
    · rfl
  have hn : ¬ 16 < parts.length := fun h => by
    rw [fErr, if_neg (by rw [hw]; simp), if_pos h] at h0; cases h0
  rw [wordB, Bool.and_eq_true, decide_eq_true_eq] at hw
  intro x hx
  rw [frameOf, List.mem_append] at hx
  rcases hx with hx | hx
  · exact fhead_lt W parts.length hW (by omega) (by omega) x hx
  · exact fbody_lt parts hp x hx

set_option maxRecDepth 100000 in
set_option maxHeartbeats 1000000 in
theorem alive2_any (w : World) (eT eL : Value) (hE : Errs w eT eL) :
    Calls Tryd.prog 8 #[] w fun e w' => e = .returned (.bool true) ∧ w.grownBy w' none := by
  have hF := frame_any ⟨#[97]⟩ [] none 0 0 0 0 rfl w (fun h => absurd h (Nat.lt_irrefl _)) (fun i hi => absurd hi (Nat.not_lt_zero _)) (by decide) (by decide) eT eL hE
  have h0 : fErr (strL ⟨#[97]⟩) [] = 0 := by decide
  have h1 : frameOf (strL ⟨#[97]⟩) [] = [1, 97, 0] := by decide
  have hlt : ∀ x ∈ [1, 97, 0], x < 256 := by decide
  have HF : Hid (Calls Tryd.prog 10 #[.string ⟨#[97]⟩, .slice none 0 0] w fun e w' => ∃ v, e = .returned (.tuple #[v, .nilIface]) ∧ w.grownBy w' none ∧
      (convert 22 9 v).run Tryd.prog w' = .ok (.string (strOf [1, 97, 0])) w' ∧ ((strOf [1, 97, 0]).toList == [1, 97, 0]) = true) := Lib.hid (hF.mono (by
    rintro e w' ⟨hg, v, u, rfl, h⟩
    rcases h with ⟨_, rfl, hW⟩ | ⟨h, _⟩ | ⟨h, _⟩
    · rw [h1] at hW
      exact ⟨v, rfl, hg, conv_bytes (Bytes.own hW.own hlt) _ 5 _ Tryd.underlying22 Tryd.underlying5 Tryd.underlying9, by rw [ByteArray.toList_eq]; decide⟩
    · rw [h0] at h; cases h
    · rw [h0] at h; cases h))
  clear hF hE h0 h1 hlt
  go_enter Tryd.func8, Tryd.ntmps8
  go_wp2_with (go_at_call 10; refine HF.out.mono ?_; rintro e w2 ⟨v, rfl, hg, hcv, hcb⟩)
  go_ret
  exact ⟨rfl, hg⟩
end Go.Proofs.YtndgbhgalablfaaDoor
