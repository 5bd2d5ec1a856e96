/- The walk of the document's Get of whole numbers. -/
import Derived.Test.YtbbkhdgkpacjgaaDoorChecked
import Derived.WalkKit
import Derived.Lib.Hide
import Derived.Test.YtbbkhdgkpacjgaaDoorByt
import Derived.Test.YtbbkhdgkpacjgaaDoorAp
import Derived.Test.YtbbkhdgkpacjgaaDoorWh0
namespace Go.Proofs.YtbbkhdgkpacjgaaDoor
open Go.RowKit
namespace Wh
theorem num_snoc (c : Nat) : ∀ l, num (l ++ [c]) = num l * 256 + c
  | [] => by simp [num]
  | x :: r => by
    rw [List.cons_append, num, num_snoc c r, num, List.length_append, List.length_singleton, Nat.pow_succ]
    generalize 256 ^ r.length = p
    rw [Nat.add_mul, ← Nat.mul_assoc]
    omega
theorem num_take (l : List Nat) (k : Nat) (h : k < l.length) : num (l.take (k + 1)) = num (l.take k) * 256 + l.getD k 0 := by
  rw [List.take_add_one, List.getElem?_eq_getElem h, Option.toList_some, num_snoc]
  simp [List.getD_eq_getElem?_getD, List.getElem?_eq_getElem h]
/-- What the loop has behind k bytes, of 64 bits. -/
def acc (s : Bool) (l : List Nat) (k : Nat) : Nat := num (l.take k) + (if s then 18446744073709551616 - 256 ^ k else 0)
theorem acc_step (s : Bool) (l : List Nat) (k : Nat) (hl : ∀ x ∈ l, x < 256) (h : k < l.length) (h8 : l.length ≤ 8) : (acc s l k * 256 + l.getD k 0) % 18446744073709551616 = acc s l (k + 1) ∧ acc s l k < 18446744073709551616 := by
  have h1 := num_lt (l := l.take k) (fun x hx => hl x (List.mem_of_mem_take hx))
  have h2 := num_lt (l := l.take (k + 1)) (fun x hx => hl x (List.mem_of_mem_take hx))
  have hx : l.getD k 0 < 256 := by
    rw [List.getD_eq_getElem?_getD, List.getElem?_eq_getElem h]; exact hl _ (List.getElem_mem h)
  have ht := num_take l k h
  rw [List.length_take, Nat.min_eq_left (by omega)] at h1 h2
  have hp : 256 ^ (k + 1) ≤ 256 ^ 8 := Nat.pow_le_pow_right (by decide) (by omega)
  rw [show (256 ^ 8 : Nat) = 18446744073709551616 by decide] at hp
  have hk : 0 < 256 ^ k := Nat.pow_pos (by decide)
  unfold acc
  rw [ht] at h2 ⊢
  rw [Nat.pow_succ] at *
  generalize num (l.take k) = a at *
  generalize 256 ^ k = p at *
  generalize l.getD k 0 = x at *
  cases s
  · simp; omega
  · simp only [if_true]; omega
end Wh

theorem wrap64_i64 (n : Int) : wrap64 n = IntKind.i64.wrap n := by
  simp only [wrap64, IntKind.wrap, IntKind.bits, IntKind.signed]
  simp
  split <;> omega
theorem wrap_acc (m z : Nat) : IntKind.u64.wrap (IntKind.u64.wrap ((m : Int) * 256) + (z : Int)) = (((m * 256 + z) % 18446744073709551616 : Nat) : Int) := by
  simp only [IntKind.wrap, IntKind.bits, IntKind.signed]
  simp
theorem getD_small {l : List Nat} (h : ∀ x ∈ l, x < 256) (j : Nat) : l.getD j 0 < 256 := by
  rcases Nat.lt_or_ge j l.length with hj | hj
  · rw [List.getD_eq_getElem?_getD, List.getElem?_eq_getElem hj]; exact h _ (List.getElem_mem hj)
  · rw [List.getD_eq_getElem?_getD, List.getElem?_eq_none hj]; decide
/-- The bounds of 64 bits, once. -/
theorem acc_last (l : List Nat) (x : Nat) (r : List Nat) (e : l = x :: r) (hl : ∀ x ∈ l, x < 256) (h8 : l.length ≤ 8) : IntKind.i64.wrap ((Wh.acc (decide (127 < x)) l l.length : Nat) : Int) = Wh.val l := by
  subst e
  have h1 := Wh.num_lt hl
  have hp : 256 ^ (x :: r).length ≤ 256 ^ 8 := Nat.pow_le_pow_right (by decide) h8
  rw [show (256 ^ 8 : Nat) = 18446744073709551616 by decide] at hp
  have hv := Wh.val_i64 hl h8
  rw [Wh.val] at hv ⊢
  rw [Wh.acc, List.take_length]
  rw [List.length_cons] at *
  generalize Wh.num (x :: r) = p at *
  generalize 256 ^ (r.length + 1) = q at *
  simp only [IntKind.wrap, IntKind.bits, IntKind.signed]
  by_cases hx : 127 < x
  · rw [if_pos hx] at hv ⊢
    simp only [hx, decide_true, if_true]
    simp
    omega
  · rw [if_neg hx] at hv ⊢
    simp only [hx, decide_false]
    simp
    omega

set_option maxRecDepth 100000 in
set_option maxHeartbeats 400000 in
/-- The loop and what stands behind it, of a list of at most 8 bytes that are as few as can be. -/
theorem refWGet_any (v : Value) (l : List Nat) (w : World) (hB : Bytes w v l) :
    Calls Tryd.prog 14 #[v] w fun e w' => w' = w ∧ match Wh.get l with
      | .ok n => e = .returned (.tuple #[.int .i64 n, .int .i64 0])
      | .error k => e = .returned (.tuple #[.int .i64 0, .int .i64 k]) := by
  obtain ⟨hlt, a, sb, so, c, rfl, hc, ha, hcell⟩ := hB
  match l, hlt, hc, ha, hcell with
  | [], hlt, hc, ha, hcell =>
    clear hlt ha hcell
    rw [show Wh.get [] = .error 2 by rw [Wh.get, if_pos rfl]]
    go_enter Tryd.func14, Tryd.ntmps14
    go_wp2
    go_ret2
    exact ⟨rfl, rfl⟩
  | x :: r, hlt, hc, ha, hcell =>
    obtain ⟨rfl, ha2⟩ := ha (by simp)
    have c0 : w.cell? ⟨sb, so, none⟩ = some (.int .u8 (x : Nat)) := hcell 0 (by simp)
    have hx := hlt x (by simp)
    obtain ⟨y, hy⟩ : ∃ y, y = (x :: r).getD 1 0 := ⟨_, rfl⟩
    have hy2 : y < 256 := by rw [hy]; exact getD_small hlt 1
    have c1 : 1 < (x :: r).length → w.cell? ⟨sb, so + 1, none⟩ = some (.int .u8 (y : Nat)) := fun h => by rw [hy]; exact hcell 1 h
    have hneed : Wh.needless (x :: r) = true ↔ 1 < (x :: r).length ∧ (x = 0 ∧ y < 128 ∨ x = 255 ∧ 127 < y) := by
      match r, hy with
      | [], _ => simp [Wh.needless]
      | z :: s, hy =>
        have : y = z := by simpa using hy
        subst this
        simp [Wh.needless]
    have hg1 : Wh.needless (x :: r) = true → Wh.get (x :: r) = .error 4 := fun h => by rw [Wh.get, if_neg (by simp), if_pos h]
    have hg2 : ¬ Wh.needless (x :: r) = true → 8 < (x :: r).length → Wh.get (x :: r) = .error 1 := fun h h8 => by rw [Wh.get, if_neg (by simp), if_neg h, if_pos h8]
    have hg3 : ¬ Wh.needless (x :: r) = true → ¬ 8 < (x :: r).length → Wh.get (x :: r) = .ok (Wh.val (x :: r)) := fun h h8 => by rw [Wh.get, if_neg (by simp), if_neg h, if_neg h8]
    have hlast := fun h8 => acc_last (x :: r) x r rfl hlt h8
    have hstep := fun k h h8 => Wh.acc_step (decide (127 < x)) (x :: r) k hlt h h8
    have hx0 : (x :: r).getD 0 0 = x := rfl
    have hpos : 0 < (x :: r).length := by simp
    rw [hneed] at hg1 hg2 hg3
    clear hneed hy ha
    generalize hL : (x :: r) = L at *
    have Hcell := Lib.hid hcell
    have Hlt := Lib.hid hlt
    have HL := Lib.hid hL
    clear hcell hlt hL
    obtain ⟨n, hn⟩ : ∃ n, n = L.length := ⟨_, rfl⟩
    have HN := Lib.hid hn
    rw [← hn] at hc c1 hg1 hg2 hg3 hlast hstep hpos ⊢
    have Hlast := Lib.hid hlast
    have Hstep := Lib.hid hstep
    clear hn hlast hstep hx0
    generalize hgv : Wh.get L = gv at *
    clear hgv
    by_cases h1 : 1 < n ∧ (x = 0 ∧ y < 128 ∨ x = 255 ∧ 127 < y)
    · obtain rfl := hg1 h1
      obtain ⟨h1, h2⟩ := h1
      have c1' := c1 h1
      clear hg1 hg2 hg3 c1
      go_enter Tryd.func14, Tryd.ntmps14
      rcases h2 with ⟨rfl, h2⟩ | ⟨rfl, h2⟩
      · go_wp2
        go_ret2
        exact ⟨rfl, rfl⟩
      · go_wp2
        go_ret2
        exact ⟨rfl, rfl⟩
    · have hcase : n = 1 ∨ (1 < n ∧ x = 0 ∧ 128 ≤ y) ∨ (1 < n ∧ x = 255 ∧ y ≤ 127) ∨ (1 < n ∧ x ≠ 0 ∧ x ≠ 255) := by omega
      by_cases h8 : 8 < n
      · obtain rfl := hg2 h1 h8
        have c1' := c1 (by omega)
        clear hg1 hg2 hg3 c1 h1
        go_enter Tryd.func14, Tryd.ntmps14
        rcases hcase with h | ⟨h, rfl, h2⟩ | ⟨h, rfl, h2⟩ | ⟨h, h2, h3⟩
        · omega
        · go_wp2
          go_ret2
          exact ⟨rfl, rfl⟩
        · go_wp2
          go_ret2
          exact ⟨rfl, rfl⟩
        · go_wp2
          go_ret2
          exact ⟨rfl, rfl⟩
      · obtain rfl := hg3 h1 h8
        clear hg1 hg2 hg3 h1
        have Hl := Lib.hid (Hlast.out (by omega))
        have HSt := Lib.hid (fun k hk => Hstep.out k hk (by omega))
        obtain ⟨S, hS⟩ : ∃ S, S = decide (127 < x) := ⟨_, rfl⟩
        have HS : Hid (S = decide (127 < x)) := Lib.hid hS
        rw [← hS] at Hl HSt
        generalize Wh.val L = V at *
        have fin : ∀ (a : Act), True := fun _ => trivial
        clear Hlast Hstep hS fin
        rcases hcase with rfl | ⟨h, rfl, h2⟩ | ⟨h, rfl, h2⟩ | ⟨h, h2, h3⟩
        · clear c1
          by_cases hs : 127 < x
          · go_enter Tryd.func14, Tryd.ntmps14
            go_wp2
            go_loopw [4, 46] (fun u i wr => ∃ k : Nat, k ≤ 1 ∧ i = .int .i64 k ∧ u = .int .u64 (Wh.acc S L k : Nat) ∧ wr = w) (fun _ i _ => 1 - (intOf i).toNat)
            case atStart => exact ⟨0, Nat.zero_le _, rfl, by rw [HS.out]; simp [Wh.acc, Wh.num, hs], rfl⟩
            case round =>
              obtain ⟨k, hk, rfl, rfl, rfl⟩ := hrel
              by_cases hkn : k < 1
              · have hc1 := Hcell.out k (by rw [← HN.out]; exact hkn)
                have hz := getD_small Hlt.out k
                obtain ⟨hs1, hs2⟩ := HSt.out k hkn
                have Hs1 := Lib.hid hs1
                clear hs1
                generalize L.getD k 0 = z at *
                generalize Wh.acc S L k = m at *
                go_wp2
                go_roundw
                case rel => exact ⟨k + 1, by omega, by go_num, by rw [wrap_acc, Hs1.out], trivial⟩
                case measure => simp [intOf]; omega
              · obtain rfl : k = 1 := by omega
                generalize hm : Wh.acc S L _ = m at *
                have Hm1 := Lib.hid hm
                clear hm
                go_wp2
                go_ret2
                exact ⟨rfl, by rw [← Hl.out, ← wrap64_i64]; rfl⟩
          · go_enter Tryd.func14, Tryd.ntmps14
            go_wp2
            go_loopw [4, 46] (fun u i wr => ∃ k : Nat, k ≤ 1 ∧ i = .int .i64 k ∧ u = .int .u64 (Wh.acc S L k : Nat) ∧ wr = w) (fun _ i _ => 1 - (intOf i).toNat)
            case atStart => exact ⟨0, Nat.zero_le _, rfl, by rw [HS.out]; simp [Wh.acc, Wh.num, hs], rfl⟩
            case round =>
              obtain ⟨k, hk, rfl, rfl, rfl⟩ := hrel
              by_cases hkn : k < 1
              · have hc1 := Hcell.out k (by rw [← HN.out]; exact hkn)
                have hz := getD_small Hlt.out k
                obtain ⟨hs1, hs2⟩ := HSt.out k hkn
                have Hs1 := Lib.hid hs1
                clear hs1
                generalize L.getD k 0 = z at *
                generalize Wh.acc S L k = m at *
                go_wp2
                go_roundw
                case rel => exact ⟨k + 1, by omega, by go_num, by rw [wrap_acc, Hs1.out], trivial⟩
                case measure => simp [intOf]; omega
              · obtain rfl : k = 1 := by omega
                generalize hm : Wh.acc S L _ = m at *
                have Hm1 := Lib.hid hm
                clear hm
                go_wp2
                go_ret2
                exact ⟨rfl, by rw [← Hl.out, ← wrap64_i64]; rfl⟩
        · have c1' := c1 h
          clear c1
          go_enter Tryd.func14, Tryd.ntmps14
          go_wp2
          go_loopw [4, 46] (fun u i wr => ∃ k : Nat, k ≤ n ∧ i = .int .i64 k ∧ u = .int .u64 (Wh.acc S L k : Nat) ∧ wr = w) (fun _ i _ => n - (intOf i).toNat)
          case atStart => exact ⟨0, Nat.zero_le _, rfl, by rw [HS.out]; simp [Wh.acc, Wh.num, show ¬ (127 < 0) by omega], rfl⟩
          case round =>
            obtain ⟨k, hk, rfl, rfl, rfl⟩ := hrel
            by_cases hkn : k < n
            · have hc1 := Hcell.out k (by rw [← HN.out]; exact hkn)
              have hz := getD_small Hlt.out k
              obtain ⟨hs1, hs2⟩ := HSt.out k hkn
              have Hs1 := Lib.hid hs1
              clear hs1
              generalize L.getD k 0 = z at *
              generalize Wh.acc S L k = m at *
              go_wp2
              go_roundw
              case rel => exact ⟨k + 1, by omega, by go_num, by rw [wrap_acc, Hs1.out], trivial⟩
              case measure => simp [intOf]; omega
            · obtain rfl : k = n := by omega
              generalize hm : Wh.acc S L _ = m at *
              have Hm1 := Lib.hid hm
              clear hm
              go_wp2
              go_ret2
              exact ⟨rfl, by rw [← Hl.out, ← wrap64_i64]; rfl⟩
        · have c1' := c1 h
          clear c1
          go_enter Tryd.func14, Tryd.ntmps14
          go_wp2
          go_loopw [4, 46] (fun u i wr => ∃ k : Nat, k ≤ n ∧ i = .int .i64 k ∧ u = .int .u64 (Wh.acc S L k : Nat) ∧ wr = w) (fun _ i _ => n - (intOf i).toNat)
          case atStart => exact ⟨0, Nat.zero_le _, rfl, by rw [HS.out]; simp [Wh.acc, Wh.num, show 127 < 255 by omega], rfl⟩
          case round =>
            obtain ⟨k, hk, rfl, rfl, rfl⟩ := hrel
            by_cases hkn : k < n
            · have hc1 := Hcell.out k (by rw [← HN.out]; exact hkn)
              have hz := getD_small Hlt.out k
              obtain ⟨hs1, hs2⟩ := HSt.out k hkn
              have Hs1 := Lib.hid hs1
              clear hs1
              generalize L.getD k 0 = z at *
              generalize Wh.acc S L k = m at *
              go_wp2
              go_roundw
              case rel => exact ⟨k + 1, by omega, by go_num, by rw [wrap_acc, Hs1.out], trivial⟩
              case measure => simp [intOf]; omega
            · obtain rfl : k = n := by omega
              generalize hm : Wh.acc S L _ = m at *
              have Hm1 := Lib.hid hm
              clear hm
              go_wp2
              go_ret2
              exact ⟨rfl, by rw [← Hl.out, ← wrap64_i64]; rfl⟩
        · have c1' := c1 h
          clear c1
          by_cases hs : 127 < x
          · go_enter Tryd.func14, Tryd.ntmps14
            go_wp2
            go_loopw [4, 46] (fun u i wr => ∃ k : Nat, k ≤ n ∧ i = .int .i64 k ∧ u = .int .u64 (Wh.acc S L k : Nat) ∧ wr = w) (fun _ i _ => n - (intOf i).toNat)
            case atStart => exact ⟨0, Nat.zero_le _, rfl, by rw [HS.out]; simp [Wh.acc, Wh.num, hs], rfl⟩
            case round =>
              obtain ⟨k, hk, rfl, rfl, rfl⟩ := hrel
              by_cases hkn : k < n
              · have hc1 := Hcell.out k (by rw [← HN.out]; exact hkn)
                have hz := getD_small Hlt.out k
                obtain ⟨hs1, hs2⟩ := HSt.out k hkn
                have Hs1 := Lib.hid hs1
                clear hs1
                generalize L.getD k 0 = z at *
                generalize Wh.acc S L k = m at *
                go_wp2
                go_roundw
                case rel => exact ⟨k + 1, by omega, by go_num, by rw [wrap_acc, Hs1.out], trivial⟩
                case measure => simp [intOf]; omega
              · obtain rfl : k = n := by omega
                generalize hm : Wh.acc S L _ = m at *
                have Hm1 := Lib.hid hm
                clear hm
                go_wp2
                go_ret2
                exact ⟨rfl, by rw [← Hl.out, ← wrap64_i64]; rfl⟩
          · go_enter Tryd.func14, Tryd.ntmps14
            go_wp2
            go_loopw [4, 46] (fun u i wr => ∃ k : Nat, k ≤ n ∧ i = .int .i64 k ∧ u = .int .u64 (Wh.acc S L k : Nat) ∧ wr = w) (fun _ i _ => n - (intOf i).toNat)
            case atStart => exact ⟨0, Nat.zero_le _, rfl, by rw [HS.out]; simp [Wh.acc, Wh.num, hs], rfl⟩
            case round =>
              obtain ⟨k, hk, rfl, rfl, rfl⟩ := hrel
              by_cases hkn : k < n
              · have hc1 := Hcell.out k (by rw [← HN.out]; exact hkn)
                have hz := getD_small Hlt.out k
                obtain ⟨hs1, hs2⟩ := HSt.out k hkn
                have Hs1 := Lib.hid hs1
                clear hs1
                generalize L.getD k 0 = z at *
                generalize Wh.acc S L k = m at *
                go_wp2
                go_roundw
                case rel => exact ⟨k + 1, by omega, by go_num, by rw [wrap_acc, Hs1.out], trivial⟩
                case measure => simp [intOf]; omega
              · obtain rfl : k = n := by omega
                generalize hm : Wh.acc S L _ = m at *
                have Hm1 := Lib.hid hm
                clear hm
                go_wp2
                go_ret2
                exact ⟨rfl, by rw [← Hl.out, ← wrap64_i64]; rfl⟩
end Go.Proofs.YtbbkhdgkpacjgaaDoor
