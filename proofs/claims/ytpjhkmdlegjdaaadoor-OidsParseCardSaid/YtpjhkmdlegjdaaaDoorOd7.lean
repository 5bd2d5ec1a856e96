/- The walk of the document's Put of identifiers. -/
import Derived.Test.YtpjhkmdlegjdaaaDoorOd6
import Derived.Test.YtpjhkmdlegjdaaaDoorOr1
namespace Go.Proofs.YtpjhkmdlegjdaaaDoor
open Go.RowKit

namespace Od
def rest : List Int → List Nat
  | [] => []
  | n :: r => sept n.toNat ++ rest r
/-- Right arcs' body. -/
def put (l : List Int) : List Nat := sept (40 * (l.getD 0 0).toNat + (l.getD 1 0).toNat) ++ rest (l.drop 2)
theorem rest_snoc : ∀ (l : List Int) (n : Int), rest (l ++ [n]) = rest l ++ sept n.toNat
  | [], n => by simp [rest]
  | x :: r, n => by rw [List.cons_append, rest, rest_snoc r n, rest, List.append_assoc]
theorem rest_take (l : List Int) (k : Nat) (h : k < l.length) : rest (l.take (k + 1)) = rest (l.take k) ++ sept (l.getD k 0).toNat := by
  have e : l.getD k 0 = l[k] := by rw [List.getD_eq_getElem?_getD, List.getElem?_eq_getElem h]; rfl
  rw [List.take_add_one, List.getElem?_eq_getElem h, Option.toList_some, rest_snoc, e]
theorem rest_len : ∀ l : List Int, (rest l).length ≤ 6 * l.length
  | [] => by simp [rest]
  | n :: r => by
    have h1 := rest_len r
    have h2 : (sept n.toNat).length ≤ 6 := septUpto_len _ 6
    rw [rest, List.length_append, List.length_cons]
    omega
theorem sept_len (n : Nat) : (sept n).length ≤ 6 := septUpto_len n 6
end Od

theorem ownsRow_base {w : World} {b1 b2 : Nat} {e : TypeId} {s : Nat} {v : Value} {n : Nat} {xs : List Value} (h : w.ownsRow b2 e s v n xs) (hb : b1 ≤ b2) : w.ownsRow b1 e s v n xs := by
  refine ⟨h.1, ?_⟩
  rcases h.2 with h1 | ⟨g, cap, cur, h1, h2, h3⟩
  · exact .inl h1
  · exact .inr ⟨g, cap, cur, h1, Nat.le_trans hb h2, h3⟩

set_option maxRecDepth 100000 in
set_option maxHeartbeats 1000000 in
theorem refOPut_any (v : Value) (l : List Int) (w : World) (hB : Ints w v l) (hr : Od.right l = true) :
    Calls Tryd.prog 13 #[v] w fun e w' => ∃ u, e = .returned u ∧ FrW w w' u (Od.put l) := by
  obtain ⟨⟨hl2, hl16, hx0, hx2, hxy⟩, hall⟩ := (Od.right_iff l).1 hr
  have hnat : ∀ j, j < l.length → ∃ u : Nat, l.getD j 0 = u ∧ u ≤ 2147483647 := fun j hj => by
    have := hall l[j] (List.getElem_mem hj)
    have e : l.getD j 0 = l[j] := by rw [List.getD_eq_getElem?_getD, List.getElem?_eq_getElem hj]; rfl
    exact ⟨(l.getD j 0).toNat, by omega, by omega⟩
  obtain ⟨x, hx, hxb⟩ := hnat 0 (by omega)
  obtain ⟨y, hy, hyb⟩ := hnat 1 (by omega)
  have hx2' : x ≤ 2 := by omega
  have HPut : Hid (Od.put l = Od.sept (40 * x + y) ++ Od.rest (l.drop 2)) := Lib.hid (by rw [Od.put, hx, hy, Int.toNat_natCast, Int.toNat_natCast])
  obtain ⟨m, hm⟩ : ∃ m, l.length = m + 2 := ⟨l.length - 2, by omega⟩
  have hB2 := hB
  obtain ⟨a, sb, so, c, rfl, hc, ha, hcell⟩ := hB2
  obtain ⟨rfl, hsb⟩ := ha (by omega)
  have hF := Ints.from hB 2 (by omega)
  obtain ⟨a1, sb1, so1, c1, he, hc1, ha1, hcell1⟩ := hF
  have hdl : (l.drop 2).length = m := by rw [List.length_drop]; omega
  obtain ⟨r, hrr⟩ : ∃ r, r = l.drop 2 := ⟨_, rfl⟩
  rw [← hrr] at hdl he hc1 ha1 hcell1 HPut
  rw [hdl] at he hc1 ha1 hcell1
  have hrnat : ∀ j, j < m → ∃ u : Nat, r.getD j 0 = u ∧ u ≤ 2147483647 := fun j hj => by
    obtain ⟨u, h1, h2⟩ := hnat (j + 2) (by omega)
    refine ⟨u, ?_, h2⟩
    rw [← h1, hrr]
    simp [List.getD_eq_getElem?_getD, Nat.add_comm]
  have HRn := Lib.hid hrnat
  have HRt : Hid (∀ k, k < m → Od.rest (r.take (k + 1)) = Od.rest (r.take k) ++ Od.sept (r.getD k 0).toNat) := Lib.hid (fun k hk => Od.rest_take r k (by omega))
  have HRl : Hid (∀ k, (Od.rest (r.take k)).length ≤ 6 * k) := Lib.hid (fun k => by
    have := Od.rest_len (r.take k)
    rw [List.length_take] at this
    omega)
  have HRe : Hid (Od.rest (r.take m) = Od.rest r) := Lib.hid (by rw [List.take_of_length_le (by omega)])
  have c00 := hcell 0 (by omega)
  have c01 := hcell 1 (by omega)
  rw [hx] at c00
  rw [hy] at c01
  rw [hm] at hc he ⊢
  have HS := Lib.hid (fun (n : Nat) (hn : n ≤ 2147483800) W => refSept_any n hn W)
  have HSl := Lib.hid Od.sept_len
  have HSt : Hid (∀ n, ∀ z ∈ Od.sept n, z < 256) := Lib.hid (fun n => Od.septUpto_lt n 6)
  have HC0 := Lib.hid (fun (W : World) (hW : w.grownBy W none) => by
    have := c00
    rw [← World.cell?_of_block (hW.block sb hsb (by simp))] at this
    exact this)
  have HC1 := Lib.hid (fun (W : World) (hW : w.grownBy W none) => by
    have := c01
    rw [← World.cell?_of_block (hW.block sb hsb (by simp))] at this
    exact this)
  have HCr := Lib.hid (fun (W : World) (hW : w.grownBy W none) (j : Nat) (hj : j < m) => by
    have := hcell1 j hj
    rw [← World.cell?_of_block (hW.block sb1 (ha1 (by omega)).2 (by simp))] at this
    exact this)
  have hm14 : m ≤ 14 := by omega
  have ha1' := fun h => (ha1 h).1
  have HA1 := Lib.hid ha1'
  have hsub : subA (some ⟨sb, so, none⟩) 2 c = a1 := by
    simp only [Value.slice.injEq] at he
    exact he.1
  clear he
  clear hall hnat hr hB hcell hcell1 hrnat ha ha1 ha1' hrr hx hy hxy hx0 hx2 hl2 hl16 c00 c01
  rcases Nat.eq_zero_or_pos m with hmp | hmp
  · have HM0 := Lib.hid hmp
    clear hmp
    go_enter Tryd.func13, Tryd.ntmps13
    go_wp2
    refine op_region _ sb so (m + 2) c x y (Od.sept (40 * x + y)) w _ _ rfl rfl (by omega) (fun W hW => HC0.out W hW) (fun W hW => HC1.out W hW) ?_ ?_ (fun W hW => (HS.out _ (by omega) W).mono (fun e w' ⟨u, h1, h2⟩ => ⟨u, h1, h2.grown, by
      obtain ⟨g1, g2⟩ := h2
      exact ownsRow_base g2 hW.size⟩)) ⟨rfl, rfl, rfl, Nat.le_refl _, fun _ _ _ => rfl⟩ (fun us w3 out hg3 hO3 => ?_)
    · simp only [IntKind.wrap, IntKind.bits, IntKind.signed]
      simp
      omega
    · simp only [IntKind.wrap, IntKind.bits, IntKind.signed]
      simp
      omega
    simp only [fill_cons, fill_nil, Act.put, List.setIfInBounds_toArray, List.set_cons_succ, List.set_cons_zero]
    have F3 : Hid (FrW w w3 out (Od.sept (40 * x + y))) := Lib.hid ⟨hg3, hO3⟩
    obtain ⟨S0, hS0⟩ : ∃ S0, S0 = Od.sept (40 * x + y) := ⟨_, rfl⟩
    have HS0 : Hid (S0.length ≤ 6) := Lib.hid (by rw [hS0]; exact HSl.out _)
    rw [← hS0] at F3 HPut
    have FS : Hid (FrW w w3 out (S0 ++ Od.rest (r.take 0))) := Lib.hid (by rw [show Od.rest (r.take 0) = [] from rfl, List.append_nil]; exact F3.out)
    clear hg3 hO3 hS0
    go_wp2
    go_loopw [3, 18] (fun o i wr => ∃ k : Nat, k ≤ m ∧ i = .int .i64 k ∧ FrW w wr o (S0 ++ Od.rest (r.take k))) (fun _ i _ => m - (intOf i).toNat)
    case atStart => exact ⟨0, by omega, rfl, FS.out⟩
    case round =>
      obtain ⟨k, hk, rfl, hF⟩ := hrel
      have HF := Lib.hid hF
      clear hF
      obtain rfl : k = m := by have := HM0.out; omega
      go_wp2
      go_ret
      exact ⟨_, rfl, by rw [HPut.out, ← HRe.out]; exact HF.out⟩
  · have hsub1 := HA1.out hmp
    rw [hsub1] at hsub
    go_enter Tryd.func13, Tryd.ntmps13
    go_wp2
    refine op_region _ sb so (m + 2) c x y (Od.sept (40 * x + y)) w _ _ rfl rfl (by omega) (fun W hW => HC0.out W hW) (fun W hW => HC1.out W hW) ?_ ?_ (fun W hW => (HS.out _ (by omega) W).mono (fun e w' ⟨u, h1, h2⟩ => ⟨u, h1, h2.grown, by
      obtain ⟨g1, g2⟩ := h2
      exact ownsRow_base g2 hW.size⟩)) ⟨rfl, rfl, rfl, Nat.le_refl _, fun _ _ _ => rfl⟩ (fun us w3 out hg3 hO3 => ?_)
    · simp only [IntKind.wrap, IntKind.bits, IntKind.signed]
      simp
      omega
    · simp only [IntKind.wrap, IntKind.bits, IntKind.signed]
      simp
      omega
    simp only [fill_cons, fill_nil, Act.put, List.setIfInBounds_toArray, List.set_cons_succ, List.set_cons_zero]
    have F3 : Hid (FrW w w3 out (Od.sept (40 * x + y))) := Lib.hid ⟨hg3, hO3⟩
    obtain ⟨S0, hS0⟩ : ∃ S0, S0 = Od.sept (40 * x + y) := ⟨_, rfl⟩
    have HS0 : Hid (S0.length ≤ 6) := Lib.hid (by rw [hS0]; exact HSl.out _)
    rw [← hS0] at F3 HPut
    have FS : Hid (FrW w w3 out (S0 ++ Od.rest (r.take 0))) := Lib.hid (by rw [show Od.rest (r.take 0) = [] from rfl, List.append_nil]; exact F3.out)
    clear hg3 hO3 hS0
    go_wp2
    go_loopw [3, 18] (fun o i wr => ∃ k : Nat, k ≤ m ∧ i = .int .i64 k ∧ FrW w wr o (S0 ++ Od.rest (r.take k))) (fun _ i _ => m - (intOf i).toNat)
    case atStart => exact ⟨0, by omega, rfl, FS.out⟩
    case round =>
      obtain ⟨k, hk, rfl, hF⟩ := hrel
      have HF := Lib.hid hF
      clear hF
      by_cases hkm : k < m
      · have hck := HCr.out _ HF.out.grown k hkm
        obtain ⟨u, hu, hu2⟩ := HRn.out k hkm
        have hrt := HRt.out k hkm
        rw [hu] at hck hrt
        rw [Int.toNat_natCast] at hrt
        have HRt2 := Lib.hid hrt
        have hlen1 := HRl.out k
        have HLn : Hid ((S0 ++ Od.rest (r.take k)).length ≤ 6 + 6 * k) := Lib.hid (by rw [List.length_append]; have := HS0.out; omega)
        have HSu := Lib.hid (HS.out u (by omega))
        have HSl2 := Lib.hid (HSl.out u)
        have HSt2 := Lib.hid (HSt.out u)
        generalize Od.sept u = S at *
        generalize hAcc : S0 ++ Od.rest (r.take k) = acc at *
        have HAcc := Lib.hid hAcc
        clear hrt hu hlen1 hAcc
        go_wp2_with (first
          | (go_at_call 30; refine (HSu.out _).mono ?_; rintro e w4 ⟨v4, rfl, hF4⟩; have F4 := Lib.hid hF4; have HF' : Hid (FrW w w4 u3 acc) := Lib.hid ⟨grown_trans HF.out.grown hF4.grown, HF.out.own.kept hF4.grown (Classical.em _)⟩; obtain ⟨a4, _, c4, rfl, _⟩ := ownsRow_form hF4.own; clear hF4)
          | (at_builtin; refine wpList_appB (by rfl) (.tmp 22) (.tmp 24) 30 (by rfl) w.heap.size 5 (.int .u8 0) 1 Tryd.underlying30 (by kernel_rfl) rfl (by decide) _ acc.length (cellsL acc) (by rfl) HF'.out.own _ S (by rfl) (Bytes.own F4.out.own HSt2.out) (Whole0.own F4.out.own) (by have := HLn.out; have := HSl2.out; omega) HF'.out.le ?_; intro v5 w5 ho5 hg5; have F5 := Lib.hid (HF'.out.step (l' := acc ++ S) ho5 hg5 (cellsL_append _ _).symm); clear ho5 hg5))
        go_roundw
        case rel => exact ⟨k + 1, by omega, by go_num, by rw [HRt2.out, ← List.append_assoc, HAcc.out]; exact F5.out⟩
        case measure => simp [intOf]; omega
      · obtain rfl : k = m := by omega
        go_wp2
        go_ret
        exact ⟨_, rfl, by rw [HPut.out, ← HRe.out]; exact HF.out⟩
end Go.Proofs.YtpjhkmdlegjdaaaDoor
