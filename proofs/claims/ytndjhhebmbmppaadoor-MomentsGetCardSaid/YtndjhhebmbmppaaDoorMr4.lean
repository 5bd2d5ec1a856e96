/- The walk of the document's Text: a date's body. -/
import Derived.Test.YtndjhhebmbmppaaDoorMr2
import Derived.Test.YtndjhhebmbmppaaDoorCa1
import Derived.Test.YtndjhhebmbmppaaDoorMs4
import Derived.Test.YtndjhhebmbmppaaDoorAp2
namespace Go.Proofs.YtndjhhebmbmppaaDoor
open Go.RowKit

namespace Cal
/-- The seven pairs of a date's body. -/
def pairs (d : Date) : List Nat := [d.Y / 100, d.Y % 100, d.M, d.D, d.h, d.mi, d.s]
def twos : List Nat → List Nat
  | [] => []
  | p :: r => two p ++ twos r
theorem twos_snoc : ∀ (l : List Nat) (p : Nat), twos (l ++ [p]) = twos l ++ two p
  | [], p => by simp [twos]
  | q :: r, p => by rw [List.cons_append, twos, twos_snoc r p, twos, List.append_assoc]
theorem twos_len : ∀ l : List Nat, (twos l).length = 2 * l.length
  | [] => rfl
  | q :: r => by rw [twos, List.length_append, twos_len r, List.length_cons]; simp [two]; omega
theorem text_twos (d : Date) : text d = twos (pairs d) ++ [90] := rfl
theorem take_pairs (l : List Nat) (j : Nat) (h : j < l.length) : l.take (j + 1) = l.take j ++ [l.getD j 0] := by
  rw [List.take_add_one, List.getElem?_eq_getElem h, List.getD_eq_getElem?_getD, List.getElem?_eq_getElem h]; rfl
theorem pairs_lt {d : Date} (h : Right d) : ∀ j, (pairs d).getD j 0 < 100 := by
  obtain ⟨⟨y1, y2⟩, ⟨m1, m2⟩, ⟨d1, d2⟩, h1, mi1, s1⟩ := h
  have hd31 := (days_pos (y := d.Y) m1 m2).2
  intro j
  match j with
  | 0 => show d.Y / 100 < 100; omega
  | 1 => show d.Y % 100 < 100; omega
  | 2 => show d.M < 100; omega
  | 3 => show d.D < 100; omega
  | 4 => show d.h < 100; omega
  | 5 => show d.mi < 100; omega
  | 6 => show d.s < 100; omega
  | n + 7 => exact Nat.zero_lt_succ _
theorem twos_lt {l : List Nat} (h : ∀ x ∈ l, x < 100) : ∀ x ∈ twos l, x < 256 := by
  induction l with
  | nil => intro x hx; cases hx
  | cons p r ih =>
    intro x hx
    rw [twos, List.mem_append] at hx
    rcases hx with hx | hx
    · have := h p (List.mem_cons_self ..)
      simp only [two, List.mem_cons, List.not_mem_nil, or_false] at hx
      omega
    · exact ih (fun y hy => h y (List.mem_cons_of_mem _ hy)) x hx
end Cal

theorem two_bytes {p : Nat} (hp : p < 100) (w : World) (a b : Int) (ha : a = ((48 + p / 10 : Nat) : Int)) (hb : b = ((48 + p % 10 : Nat) : Int)) : Bytes (w.alloc (.cells #[.int .u8 a, .int .u8 b] 5)) (.slice (some ⟨w.heap.size, 0, none⟩) 2 2) (Cal.two p) := by
  subst ha hb
  exact Bytes.lit (l := Cal.two p) (alloc_at w _) (by intro x hx; simp only [Cal.two, List.mem_cons, List.not_mem_nil, or_false] at hx; omega)

theorem own_ne {v v' : Value} {n k : Nat} (h : v'.ownBlock = v.ownBlock ∨ v'.ownBlock = some n) (h1 : v.ownBlock ≠ some k) (h2 : n ≠ k) : v'.ownBlock ≠ some k := by
  rcases h with h | h
  · rw [h]; exact h1
  · rw [h]; exact fun e => h2 (Option.some.inj e)

set_option maxRecDepth 100000 in
set_option maxHeartbeats 1000000 in
theorem refMText_any (d : Cal.Date) (hd : Cal.Right d) (w : World) : Calls Tryd.prog 15 #[dV d.toI] w fun e w' => ∃ v, e = .returned v ∧ FrW w w' v (Cal.text d) := by
  have HT := Lib.hid (Cal.text_twos d)
  have HPl : Hid ((Cal.pairs d).length = 7) := Lib.hid rfl
  have HPt := Lib.hid (Cal.take_pairs (Cal.pairs d))
  have HP1 := Lib.hid (Cal.pairs_lt hd)
  have HP0 : Hid ((Cal.pairs d).map (fun (x : Nat) => Value.int .i64 (x : Int)) = [.int .i64 ((d.Y : Int) / 100), .int .i64 ((d.Y : Int) % 100), .int .i64 (d.M : Int), .int .i64 (d.D : Int), .int .i64 (d.h : Int), .int .i64 (d.mi : Int), .int .i64 (d.s : Int)]) := Lib.hid (by simp only [Cal.pairs, List.map_cons, List.map_nil, Int.natCast_ediv, Int.natCast_emod]; rfl)
  obtain ⟨P, hP⟩ : ∃ P, P = Cal.pairs d := ⟨_, rfl⟩
  rw [← hP] at HT HPl HPt HP1 HP0
  obtain ⟨TX, hTX⟩ : ∃ TX, TX = Cal.text d := ⟨_, rfl⟩
  rw [← hTX] at HT ⊢
  obtain ⟨⟨y1, y2⟩, ⟨m1, m2⟩, ⟨d1, d2⟩, h1, mi1, s1⟩ := hd
  clear hP hTX d1 d2 m1 m2 h1 mi1 s1
  obtain ⟨Y, M, D, h, mi, s⟩ := d
  simp only [Cal.Date.toI] at y1 y2 HP0 ⊢
  have F0 : Hid (FrW w (((w.alloc (.cells #[.int .i64 (Y : Int), .int .i64 (M : Int), .int .i64 (D : Int), .int .i64 (h : Int), .int .i64 (mi : Int), .int .i64 (s : Int)] 34)).alloc (.cells #[] 5)).alloc (.cells #[.int .i64 ((Y : Int) / 100), .int .i64 ((Y : Int) % 100), .int .i64 (M : Int), .int .i64 (D : Int), .int .i64 (h : Int), .int .i64 (mi : Int), .int .i64 (s : Int)] 3)) (.slice (some ⟨w.heap.size + 1, 0, none⟩) 0 0) []) := Lib.hid (by
    refine FrW.alloc ⟨grown_alloc (World.grownBy_alloc _ _ _) _, ?_⟩ _
    have := ownsRow_lit (base := w.heap.size) (alloc_at (w.alloc (.cells #[.int .i64 (Y : Int), .int .i64 (M : Int), .int .i64 (D : Int), .int .i64 (h : Int), .int .i64 (mi : Int), .int .i64 (s : Int)] 34)) (.cells #[] 5)) (by rw [World.size_alloc]; omega) (by simp)
    rw [World.size_alloc] at this
    exact this)
  have HW : ∃ W0 : World, W0 = (((w.alloc (.cells #[.int .i64 (Y : Int), .int .i64 (M : Int), .int .i64 (D : Int), .int .i64 (h : Int), .int .i64 (mi : Int), .int .i64 (s : Int)] 34)).alloc (.cells #[] 5)).alloc (.cells #[.int .i64 ((Y : Int) / 100), .int .i64 ((Y : Int) % 100), .int .i64 (M : Int), .int .i64 (D : Int), .int .i64 (h : Int), .int .i64 (mi : Int), .int .i64 (s : Int)] 3)) := ⟨_, rfl⟩
  have HRow : Hid ((((w.alloc (.cells #[.int .i64 (Y : Int), .int .i64 (M : Int), .int .i64 (D : Int), .int .i64 (h : Int), .int .i64 (mi : Int), .int .i64 (s : Int)] 34)).alloc (.cells #[] 5)).alloc (.cells #[.int .i64 ((Y : Int) / 100), .int .i64 ((Y : Int) % 100), .int .i64 (M : Int), .int .i64 (D : Int), .int .i64 (h : Int), .int .i64 (mi : Int), .int .i64 (s : Int)] 3)).heap[w.heap.size + 2]? = some (.cells (P.map (fun (x : Nat) => Value.int .i64 (x : Int))).toArray 3 (0, 0))) := Lib.hid (by
    have := alloc_at ((w.alloc (.cells #[.int .i64 (Y : Int), .int .i64 (M : Int), .int .i64 (D : Int), .int .i64 (h : Int), .int .i64 (mi : Int), .int .i64 (s : Int)] 34)).alloc (.cells #[] 5)) (.cells #[.int .i64 ((Y : Int) / 100), .int .i64 ((Y : Int) % 100), .int .i64 (M : Int), .int .i64 (D : Int), .int .i64 (h : Int), .int .i64 (mi : Int), .int .i64 (s : Int)] 3)
    rw [World.size_alloc, World.size_alloc] at this
    rw [this, HP0.out])
  obtain ⟨W0, hW0⟩ := HW
  have hW0' := hW0
  rw [← hW0] at F0 HRow
  have HW0 := Lib.hid hW0'
  clear hW0 hW0'
  go_enter Tryd.func15, Tryd.ntmps15
  go_wp2
  rw [← HW0.out]
  go_loopw [25, 3, 5] (fun i v _ wr => ∃ j : Nat, j ≤ 7 ∧ i = .int .i64 ((j : Nat) : Int) ∧ FrW w wr v (Cal.twos (P.take j)) ∧ wr.heap[w.heap.size + 2]? = some (.cells (P.map (fun (x : Nat) => Value.int .i64 (x : Int))).toArray 3 (0, 0)) ∧ v.ownBlock ≠ some (w.heap.size + 2)) (fun i _ _ _ => 7 - (intOf i).toNat)
  case atStart => exact ⟨0, by omega, rfl, F0.out, HRow.out, by intro h; simp [Value.ownBlock] at h⟩
  case round =>
    obtain ⟨j, hj, rfl, hF, hr, hne⟩ := hrel
    have HF := Lib.hid hF
    have HR := Lib.hid hr
    have HNe := Lib.hid hne
    by_cases hj7 : j < 7
    · have hjP : j < P.length := by rw [HPl.out]; exact hj7
      have hcell : wr.cell? ⟨w.heap.size + 2, j, none⟩ = some (.int .i64 ((P.getD j 0 : Nat) : Int)) := cell_blk hr j (by simp [hjP])
      have HTk := Lib.hid (by
        have := HPt.out j hjP
        exact this)
      have hp := HP1.out j
      generalize P.getD j 0 = p at *
      have HNx : Hid (Cal.twos (P.take (j + 1)) = Cal.twos (P.take j) ++ Cal.two p) := Lib.hid (by rw [HTk.out, Cal.twos_snoc])
      have HLn : Hid ((Cal.twos (P.take j)).length ≤ 14) := Lib.hid (by rw [Cal.twos_len, List.length_take]; omega)
      clear hF hr hne hjP HTk
      go_wp2_with (at_builtin; refine wpList_appB2 (by rfl) (.tmp 29) (.tmp 38) 29 (by rfl) w.heap.size 5 (.int .u8 0) 1 Tryd.underlying29 (by kernel_rfl) rfl (by decide) _ _ _ (by rfl) (HF.out.own.alloc _) _ (Cal.two p) (by rfl) (two_bytes hp _ _ _ (by omega) (by omega)) (Whole0.some _ _ _) (by have := HLn.out; simp only [Cal.two, List.length_cons, List.length_nil]; omega) (by have := HF.out.le; rw [alloc_size]; omega) ?_; intro v3 w3 ho3 hg3 hb3; have HH := Lib.hid ((HF.out.alloc _).step (l' := Cal.twos (P.take (j + 1))) ho3 hg3 (by rw [HNx.out]; exact (cellsL_append _ _).symm)); have HR3 := Lib.hid ((hg3.block _ (by rw [alloc_size]; have := blk_lt HR.out; omega) (fun e => HNe.out e.symm)).trans ((Below.heap_alloc _ _ _ (by have := blk_lt HR.out; omega)).trans HR.out)); have HN3 := Lib.hid (own_ne hb3 HNe.out (by rw [alloc_size]; have := blk_lt HR.out; omega)); clear ho3 hg3 hb3)
      go_roundw
      case rel => exact ⟨j + 1, by omega, by go_num, HH.out, HR3.out, HN3.out⟩
      case measure => simp [intOf]; omega
    · obtain rfl : j = 7 := by omega
      have HL : Hid (Cal.twos (P.take 7) = Cal.twos P) := Lib.hid (by rw [List.take_of_length_le (by rw [HPl.out]; exact Nat.le_refl _)])
      rw [HL.out] at HF
      have HLn : Hid ((Cal.twos P).length = 14) := Lib.hid (by rw [Cal.twos_len, HPl.out])
      clear hF hr hne
      go_wp2_with (at_builtin; refine wpList_appB (by rfl) (.tmp 41) (.tmp 42) 29 (by rfl) w.heap.size 5 (.int .u8 0) 1 Tryd.underlying29 (by kernel_rfl) rfl (by decide) _ _ _ (by rfl) (HF.out.own.alloc _) _ [90] (by rfl) (Bytes.lit (alloc_at _ _) (by decide)) (Whole0.some _ _ _) (by have := HLn.out; simp only [List.length_cons, List.length_nil]; omega) (by have := HF.out.le; rw [alloc_size]; omega) ?_; intro v3 w3 ho3 hg3; have HH := Lib.hid ((HF.out.alloc _).step (l' := TX) ho3 hg3 (by rw [HT.out]; exact (cellsL_append _ _).symm)); clear ho3 hg3)
      go_ret
      exact ⟨_, rfl, HH.out⟩
end Go.Proofs.YtndjhhebmbmppaaDoor
