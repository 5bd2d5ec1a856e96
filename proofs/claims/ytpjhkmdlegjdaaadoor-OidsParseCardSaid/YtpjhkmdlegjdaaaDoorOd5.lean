/- The walk of the document's Text of identifiers. -/
import Derived.Test.YtpjhkmdlegjdaaaDoorIn2
import Derived.Test.YtpjhkmdlegjdaaaDoorOd8
import Derived.Test.YtpjhkmdlegjdaaaDoorWf2
namespace Go.Proofs.YtpjhkmdlegjdaaaDoor
open Go.RowKit

namespace Od
theorem text_snoc : ∀ (l : List Int) (n : Int), text (l ++ [n]) = if l = [] then Wh.dig n.toNat else text l ++ 46 :: Wh.dig n.toNat
  | [], n => rfl
  | [x], n => by simp [text]
  | x :: y :: r, n => by
    have h := text_snoc (y :: r) n
    have e1 : text (x :: y :: r) = Wh.dig x.toNat ++ 46 :: text (y :: r) := rfl
    have e2 : text (x :: y :: r ++ [n]) = Wh.dig x.toNat ++ 46 :: text (y :: r ++ [n]) := rfl
    rw [e2, h, e1, if_neg (by simp), if_neg (by simp), List.append_assoc]
    rfl
theorem text_take (l : List Int) (k : Nat) (h : k < l.length) : text (l.take (k + 1)) = if k = 0 then Wh.dig (l.getD k 0).toNat else text (l.take k) ++ 46 :: Wh.dig (l.getD k 0).toNat := by
  have e : l.getD k 0 = l[k] := by rw [List.getD_eq_getElem?_getD, List.getElem?_eq_getElem h]; rfl
  rw [List.take_add_one, List.getElem?_eq_getElem h, Option.toList_some, text_snoc, e]
  by_cases hk : k = 0
  · subst hk; simp
  · rw [if_neg hk, if_neg]
    intro he
    have := congrArg List.length he
    rw [List.length_take, List.length_nil] at this
    omega
theorem text_len : ∀ l : List Int, (text l).length ≤ 22 * l.length
  | [] => by simp [text]
  | [n] => by have := dig_len n.toNat; simp [text]; omega
  | x :: y :: r => by
    have h := text_len (y :: r)
    have := dig_len x.toNat
    rw [text]
    · simp only [List.length_append, List.length_cons] at *
      omega
    · simp
end Od

set_option maxRecDepth 100000 in
set_option maxHeartbeats 1000000 in
theorem refOText_any (v : Value) (l : List Int) (w : World) (hB : Ints w v l) (hl : l.length ≤ 1000) (hr : ∀ n ∈ l, 0 ≤ n ∧ n ≤ 2147483647) :
    Calls Tryd.prog 18 #[v] w fun e w' => e = .returned (.string (strOf (Od.text l))) ∧ w.grownBy w' none := by
  obtain ⟨a, sb, so, c, rfl, hc, ha, hcell⟩ := hB
  obtain ⟨n, hn⟩ : ∃ n, n = l.length := ⟨_, rfl⟩
  have HTk : Hid (∀ k, k < n → Od.text (l.take (k + 1)) = if k = 0 then Wh.dig (l.getD k 0).toNat else Od.text (l.take k) ++ 46 :: Wh.dig (l.getD k 0).toNat) := Lib.hid (fun k hk => Od.text_take l k (by omega))
  have HTl : Hid (∀ k, (strOf (Od.text (l.take k))).size ≤ 22 * k) := Lib.hid (fun k => by
    rw [strOf_size]
    have := Od.text_len (l.take k)
    rw [List.length_take] at this
    omega)
  have HEn : Hid (Od.text (l.take n) = Od.text l) := Lib.hid (by rw [List.take_of_length_le (by omega)])
  have HNat : Hid (∀ k, k < n → ∃ u : Nat, l.getD k 0 = u ∧ u ≤ 2147483647) := Lib.hid (fun k hk => by
    have hk' : k < l.length := by omega
    have := hr l[k] (List.getElem_mem hk')
    have e : l.getD k 0 = l[k] := by rw [List.getD_eq_getElem?_getD, List.getElem?_eq_getElem hk']; rfl
    exact ⟨(l.getD k 0).toNat, by omega, by omega⟩)
  have HRS := Lib.hid (fun u (hu : u ≤ 2147483647) W => refSerial_any u (by omega) W)
  have HDl : Hid (∀ u, (strOf (Wh.dig u)).size ≤ 21) := Lib.hid (fun u => by rw [strOf_size]; exact dig_len u)
  rw [← hn] at hc ha hcell hl ⊢
  have HA := Lib.hid ha
  have HC0 := Lib.hid (fun (W : World) (hW : w.grownBy W none) (j : Nat) (hj : j < n) => by
    have := hcell j hj
    rw [← World.cell?_of_block (hW.block sb (ha (by omega)).2 (by simp))] at this
    exact this)
  clear hn hr ha hcell
  go_enter Tryd.func18, Tryd.ntmps18
  go_wp2
  go_loopw [3, 8] (fun out i wr => ∃ k : Nat, k ≤ n ∧ i = .int .i64 k ∧ out = .string (strOf (Od.text (l.take k))) ∧ w.grownBy wr none) (fun _ i _ => n - (intOf i).toNat)
  case atStart => exact ⟨0, by omega, rfl, rfl, grown_refl _ _⟩
  case round =>
    obtain ⟨k, hk, rfl, rfl, hG⟩ := hrel
    have HG := Lib.hid hG
    clear hG
    by_cases hkn : k < n
    · obtain ⟨rfl, _⟩ := HA.out (by omega)
      have hck := HC0.out _ HG.out k hkn
      obtain ⟨u, hu, hu2⟩ := HNat.out k hkn
      have htk := HTk.out k hkn
      rw [hu] at hck htk
      rw [Int.toNat_natCast] at htk
      have HS := Lib.hid (HRS.out u hu2)
      have hD := HDl.out u
      have hT := HTl.out k
      by_cases hk0 : k = 0
      · subst hk0
        rw [if_pos rfl] at htk
        rw [Nat.add_zero] at hck
        have HTt : Hid (strOf (Od.text (l.take (0 + 1))) = strOf (Od.text (l.take 0)) ++ strOf (Wh.dig u)) := Lib.hid (by
          rw [htk, show Od.text (l.take 0) = [] from rfl, ← strOf_append]; rfl)
        generalize strOf (Wh.dig u) = D at *
        generalize strOf (Od.text (l.take 0)) = T at *
        clear htk hu
        go_wp2_with (go_at_call 33; refine (HS.out _).mono ?_; rintro e w2 ⟨rfl, hg2⟩; have HG2 := Lib.hid (grown_trans HG.out hg2); clear hg2)
        go_roundw
        case rel => exact ⟨0 + 1, by omega, by go_num, by rw [HTt.out], HG2.out⟩
        case measure => simp [intOf]; omega
      · rw [if_neg hk0] at htk
        have HTt : Hid (strOf (Od.text (l.take (k + 1))) = strOf (Od.text (l.take k)) ++ ⟨#[46]⟩ ++ strOf (Wh.dig u)) := Lib.hid (by
          rw [htk, List.append_cons, strOf_append, strOf_append]; rfl)
        generalize strOf (Wh.dig u) = D at *
        generalize strOf (Od.text (l.take k)) = T at *
        clear htk hu
        go_wp2_with (go_at_call 33; refine (HS.out _).mono ?_; rintro e w2 ⟨rfl, hg2⟩; have HG2 := Lib.hid (grown_trans HG.out hg2); clear hg2)
        go_roundw
        case rel => exact ⟨k + 1, by omega, by go_num, by rw [HTt.out], HG2.out⟩
        case measure => simp [intOf]; omega
    · obtain rfl : k = n := by omega
      rw [HEn.out]
      go_wp2
      go_ret
      exact ⟨rfl, HG.out⟩
end Go.Proofs.YtpjhkmdlegjdaaaDoor
