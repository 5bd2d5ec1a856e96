/- The walk of the law's alive (mac). The walk of the law's long. -/
import Derived.Test.YtndgbhgalablfaaDoorMs5
namespace Go.Proofs.YtndgbhgalablfaaDoor
open Go.RowKit

theorem frame_lt (W : List Nat) (parts : List (List Nat)) (h0 : fErr W parts = 0) (hW : ∀ x ∈ W, x < 256) (hp : ∀ p ∈ parts, ∀ x ∈ p, x < 256) : ∀ x ∈ frameOf W parts, x < 256 := by
  have hw : wordB W = true := by
    cases h : wordB W
    · rw [fErr, if_pos h] at h0; cases h0
    · rfl
  have hn : ¬ 16 < parts.length := fun h => by
    rw [fErr, if_neg (by rw [hw]; simp), if_pos h] at h0; cases h0
  rw [wordB, Bool.and_eq_true, decide_eq_true_eq] at hw
  intro x hx
  rw [frameOf, List.mem_append] at hx
  rcases hx with hx | hx
  · exact fhead_lt W parts.length hW (by omega) (by omega) x hx
  · exact fbody_lt parts hp x hx

set_option maxRecDepth 100000 in
set_option maxHeartbeats 1000000 in
theorem alive2_any (w : World) (eT eL : Value) (hE : Errs w eT eL) :
    Calls Tryd.prog 8 #[] w fun e w' => e = .returned (.bool true) ∧ w.grownBy w' none := by
  have hF := frame_any ⟨#[97]⟩ [] none 0 0 0 0 rfl w (fun h => absurd h (Nat.lt_irrefl _)) (fun i hi => absurd hi (Nat.not_lt_zero _)) (by decide) (by decide) eT eL hE
  have h0 : fErr (strL ⟨#[97]⟩) [] = 0 := by decide
  have h1 : frameOf (strL ⟨#[97]⟩) [] = [1, 97, 0] := by decide
  have hlt : ∀ x ∈ [1, 97, 0], x < 256 := by decide
  have HF : Hid (Calls Tryd.prog 10 #[.string ⟨#[97]⟩, .slice none 0 0] w fun e w' => ∃ v, e = .returned (.tuple #[v, .nilIface]) ∧ w.grownBy w' none ∧
      (convert 22 9 v).run Tryd.prog w' = .ok (.string (strOf [1, 97, 0])) w' ∧ ((strOf [1, 97, 0]).toList == [1, 97, 0]) = true) := Lib.hid (hF.mono (by
    rintro e w' ⟨hg, v, u, rfl, h⟩
    rcases h with ⟨_, rfl, hW⟩ | ⟨h, _⟩ | ⟨h, _⟩
    · rw [h1] at hW
      exact ⟨v, rfl, hg, conv_bytes (Bytes.own hW.own hlt) _ 5 _ Tryd.underlying22 Tryd.underlying5 Tryd.underlying9, by rw [ByteArray.toList_eq]; decide⟩
    · rw [h0] at h; cases h
    · rw [h0] at h; cases h))
  clear hF hE h0 h1 hlt
  go_enter Tryd.func8, Tryd.ntmps8
  go_wp2_with (go_at_call 10; refine HF.out.mono ?_; rintro e w2 ⟨v, rfl, hg, hcv, hcb⟩)
  go_ret
  exact ⟨rfl, hg⟩
end Go.Proofs.YtndgbhgalablfaaDoor
namespace Go.Proofs.YtndgbhgalablfaaDoor
open Go.RowKit

def longB (kl : Nat) (parts : List (List Nat)) : Bool := decide (300 < kl ∨ 20 < parts.length ∨ ∃ p ∈ parts, 300 < p.length)

theorem getD_mem {parts : List (List Nat)} {k : Nat} (h : k < parts.length) : parts.getD k [] ∈ parts := by
  rw [List.getD_eq_getElem?_getD, List.getElem?_eq_getElem h]
  exact List.getElem_mem h
theorem mem_getD {parts : List (List Nat)} {p : List Nat} (h : p ∈ parts) : ∃ k, k < parts.length ∧ parts.getD k [] = p := by
  obtain ⟨i, hi, rfl⟩ := List.mem_iff_getElem.1 h
  exact ⟨i, hi, by rw [List.getD_eq_getElem?_getD, List.getElem?_eq_getElem hi]; rfl⟩

set_option maxRecDepth 100000 in
set_option maxHeartbeats 1000000 in
theorem long_any (ka : Option Addr) (kl kc : Nat) (parts : List (List Nat)) (a : Option Addr) (sb so n c : Nat) (hn : parts.length = n) (w : World) (ha : 0 < n → a = some ⟨sb, so, none⟩ ∧ sb < w.heap.size) (hP : PartsW w sb so parts)
    (hnn : n ≤ 9223372036854775807) :
    Calls Tryd.prog 9 #[.slice ka kl kc, .slice a n c] w fun e w' => e = .returned (.bool (longB kl parts)) ∧ w' = w := by
  have Hn := Lib.hid hn
  have Ha := Lib.hid ha
  have HP := Lib.hid hP
  clear hn ha hP
  by_cases h1 : 300 < kl
  · have hL : longB kl parts = true := decide_eq_true (.inl h1)
    rw [hL]
    have d1 : decide ((300 : Int) < (kl : Int)) = true := decide_eq_true (by omega)
    go_enter Tryd.func9, Tryd.ntmps9
    go_wp2
    go_ret
    exact ⟨rfl, rfl⟩
  · have d1 : decide ((300 : Int) < (kl : Int)) = false := decide_eq_false (by omega)
    by_cases h2 : 20 < n
    · have hL : longB kl parts = true := decide_eq_true (.inr (.inl (by rw [Hn.out]; exact h2)))
      rw [hL]
      have d2 : decide ((20 : Int) < (n : Int)) = true := decide_eq_true (by omega)
      go_enter Tryd.func9, Tryd.ntmps9
      go_wp2
      go_ret
      exact ⟨rfl, rfl⟩
    · have d2 : decide ((20 : Int) < (n : Int)) = false := decide_eq_false (by omega)
      have H1 := Lib.hid h1
      go_enter Tryd.func9, Tryd.ntmps9
      go_wp2
      clear h1 d1 d2
      go_loopw [17] (fun i wr => ∃ k : Nat, k ≤ n ∧ i = .int .i64 k ∧ wr = w ∧ ∀ j, j < k → (parts.getD j []).length ≤ 300) (fun i _ => n - (intOf i).toNat)
      case atStart => exact ⟨0, Nat.zero_le _, rfl, rfl, fun j hj => absurd hj (Nat.not_lt_zero _)⟩
      case round =>
        obtain ⟨k, hk, rfl, hwr, hall⟩ := hrel
        have hwr' := hwr.symm
        subst hwr'
        have HA := Lib.hid hall
        clear hwr hall
        by_cases hkn : k < n
        · obtain ⟨rfl, ha2⟩ := Ha.out (by omega)
          obtain ⟨pv, hpc, hBy, _⟩ := HP.out k (by rw [Hn.out]; exact hkn)
          obtain ⟨_, pa, psb, pso, pc, rfl, _, _, _⟩ := hBy
          obtain ⟨q, hq⟩ : ∃ q, q = (parts.getD k []).length := ⟨_, rfl⟩
          rw [← hq] at hpc
          have Hq := Lib.hid hq
          clear hq
          by_cases hb : 300 < q
          · have hL : longB kl parts = true := decide_eq_true (.inr (.inr ⟨_, getD_mem (by rw [Hn.out]; exact hkn), by rw [← Hq.out]; exact hb⟩))
            go_wp2
            go_ret
            first | exact ⟨rfl, rfl⟩ | exact ⟨ret_bool hL.symm, rfl⟩
          · go_wp2
            go_roundw
            case rel =>
              refine ⟨k + 1, by omega, by go_num, trivial, fun j hj => ?_⟩
              rcases Nat.lt_or_ge j k with h | h
              · exact HA.out j h
              · obtain rfl : j = k := by omega
                rw [← Hq.out]; omega
            case measure => simp [intOf]; omega
        · obtain rfl : k = n := by omega
          have hL : longB kl parts = false := decide_eq_false (by
            rintro (h | h | ⟨p, hp, hpl⟩)
            · exact H1.out h
            · rw [Hn.out] at h; omega
            · obtain ⟨i, hi, rfl⟩ := mem_getD hp
              have := HA.out i (by rw [← Hn.out]; exact hi)
              omega)
          go_wp2
          go_ret
          first | exact ⟨rfl, rfl⟩ | exact ⟨ret_bool hL.symm, rfl⟩

end Go.Proofs.YtndgbhgalablfaaDoor
