/- slices.IndexFunc over parts with Of's closure; Of's look-up; package names' Of. -/
import Derived.Test.YtepjjgplnmkjgaaDoorNq6
namespace Go.Proofs.YtepjjgplnmkjgaaDoor
open Go.RowKit
set_option linter.unusedVariables false

set_option maxRecDepth 100000 in
theorem of11_any (p : Na.Pr) (o : ByteArray) (ob : Nat) (w : World) (ho : w.cell? ⟨ob, 0, none⟩ = some (.string o)) : Calls Tryd.prog 17 #[.agg #[.string p.1, .string p.2], .pointer (some ⟨ob, 0, none⟩)] w fun e w' => e = .returned (.bool (decide (p.1 = o))) ∧ w.grownBy w' none := by
  obtain ⟨p1, p2⟩ := p
  have hlt := World.block_lt_of_cell? w _ ho
  have hlt' : ob < w.heap.size := hlt
  have hb : (p1.toList == o.toList) = decide (p1 = o) := by
    rw [Bool.eq_iff_iff, beq_iff_eq, decide_eq_true_eq]; exact ⟨Na.toList_inj, fun h => by rw [h]⟩
  have HB := Lib.hid hb
  clear hb
  simp only
  go_enter Tryd.func17, Tryd.ntmps17
  go_wp2
  go_ret
  exact ⟨retB7 (by rw [← HB.out]), grown_alloc (grown_refl _ _) _⟩
/-- Where the first part with an identifier stands. -/
def ixOf (o : ByteArray) : List Na.Pr → Int
  | [] => -1
  | p :: r => if p.1 = o then 0 else if ixOf o r = -1 then -1 else ixOf o r + 1
theorem ix_at : ∀ {l : List Na.Pr} {o : ByteArray} {k : Nat}, k < l.length → (∀ j, j < k → (l.getD j (Na.e0, Na.e0)).1 ≠ o) → (l.getD k (Na.e0, Na.e0)).1 = o → ixOf o l = k
  | [], _, k, h, _, _ => absurd h (Nat.not_lt_zero _)
  | p :: r, o, 0, _, _, h => by rw [ixOf, if_pos (by simpa using h)]; rfl
  | p :: r, o, k + 1, hk, hj, h => by
    rw [ixOf, if_neg (by simpa using hj 0 (by omega)), ix_at (k := k) (by simpa using hk) (fun j hjk => by simpa using hj (j + 1) (by omega)) (by simpa using h), if_neg (by omega)]
    omega
theorem ix_none : ∀ {l : List Na.Pr} {o : ByteArray}, (∀ j, j < l.length → (l.getD j (Na.e0, Na.e0)).1 ≠ o) → ixOf o l = -1
  | [], _, _ => rfl
  | p :: r, o, h => by
    rw [ixOf, if_neg (by simpa using h 0 (by simp)), ix_none (fun j hj => by simpa using h (j + 1) (by simpa using hj)), if_pos rfl]
theorem first_at : ∀ {l : List Na.Pr} {o : ByteArray} {k : Nat}, k < l.length → (∀ j, j < k → (l.getD j (Na.e0, Na.e0)).1 ≠ o) → (l.getD k (Na.e0, Na.e0)).1 = o → Na.firstOf o l = (l.getD k (Na.e0, Na.e0)).2
  | [], _, k, h, _, _ => absurd h (Nat.not_lt_zero _)
  | p :: r, o, 0, _, _, h => by rw [Na.firstOf, if_pos (by simpa using h)]; simp
  | p :: r, o, k + 1, hk, hj, h => by
    rw [Na.firstOf, if_neg (by simpa using hj 0 (by omega)), first_at (k := k) (by simpa using hk) (fun j hjk => by simpa using hj (j + 1) (by omega)) (by simpa using h)]
    simp
theorem first_none : ∀ {l : List Na.Pr} {o : ByteArray}, (∀ j, j < l.length → (l.getD j (Na.e0, Na.e0)).1 ≠ o) → Na.firstOf o l = Na.e0
  | [], _, _ => rfl
  | p :: r, o, h => by
    rw [Na.firstOf, if_neg (by simpa using h 0 (by simp)), first_none (fun j hj => by simpa using h (j + 1) (by simpa using hj))]
theorem ix_cases : ∀ (l : List Na.Pr) (o : ByteArray), (∃ j : Nat, j < l.length ∧ Na.firstOf o l = (l.getD j (Na.e0, Na.e0)).2 ∧ ixOf o l = j) ∨ (Na.firstOf o l = Na.e0 ∧ ixOf o l = -1)
  | [], _ => .inr ⟨rfl, rfl⟩
  | p :: r, o => by
    by_cases e : p.1 = o
    · exact .inl ⟨0, by simp, by rw [Na.firstOf, if_pos e]; simp, by rw [ixOf, if_pos e]; rfl⟩
    · rcases ix_cases r o with ⟨j, h1, h2, h3⟩ | ⟨h1, h2⟩
      · exact .inl ⟨j + 1, by simpa using h1, by rw [Na.firstOf, if_neg e, h2]; simp, by rw [ixOf, if_neg e, h3, if_neg (by omega)]; omega⟩
      · exact .inr ⟨by rw [Na.firstOf, if_neg e, h1], by rw [ixOf, if_neg e, h2, if_pos rfl]⟩
set_option maxRecDepth 100000 in
set_option maxHeartbeats 2000000 in
theorem ixParts_any (v : Value) (l : List Na.Pr) (o : ByteArray) (ob : Nat) (w : World) (hP : Prts w v l) (ho : w.cell? ⟨ob, 0, none⟩ = some (.string o)) (hl : l.length ≤ 1000) :
    Calls Tryd.prog 16 #[v, .func (.func 17) #[] #[.pointer (some ⟨ob, 0, none⟩)]] w fun e w' => e = .returned (.int .i64 (ixOf o l)) ∧ w.grownBy w' none := by
  obtain ⟨a1, b1, s1, c1, rfl, ha1, hx1⟩ := hP
  have HOf := Lib.hid (fun W (hg : w.grownBy W none) p => of11_any p o ob W ((World.cell?_of_block (hg.block ob (World.block_lt_of_cell? w _ ho) (by simp))).trans ho))
  have HX1 := Lib.hid (fun W (hg : w.grownBy W none) i (hi : i < l.length) => (show W.cell? ⟨b1, s1 + i * 2, none⟩ = some (.string (l.getD i (Na.e0, Na.e0)).1) ∧ W.cell? ⟨b1, s1 + i * 2 + 1, none⟩ = some (.string (l.getD i (Na.e0, Na.e0)).2) from by
    have hb := hg.block b1 (ha1 (by omega)).2 (by simp)
    exact ⟨(World.cell?_of_block hb).trans (hx1 i hi).1, (World.cell?_of_block hb).trans (hx1 i hi).2⟩))
  have HF : Hid (∀ k, k < l.length → (∀ j, j < k → (l.getD j (Na.e0, Na.e0)).1 ≠ o) → (l.getD k (Na.e0, Na.e0)).1 = o → ixOf o l = k) := Lib.hid (fun k => ix_at)
  have HNn : Hid ((∀ j, j < l.length → (l.getD j (Na.e0, Na.e0)).1 ≠ o) → ixOf o l = -1) := Lib.hid ix_none
  generalize ixOf o l = R at *
  obtain ⟨N, hN⟩ : ∃ N, N = l.length := ⟨_, rfl⟩
  have HA1 : Hid (0 < N → a1 = some ⟨b1, s1, none⟩) := Lib.hid (fun h => (ha1 (by omega)).1)
  rw [← hN] at HX1 HF HNn
  rw [← hN]
  have hNl : N ≤ 1000 := by omega
  clear ha1 hx1 hl hN ho
  go_enter Tryd.func16, Tryd.ntmps16
  go_wp2
  go_loopw [8, 5] (fun i _ wr => ∃ k : Nat, k ≤ N ∧ i = .int .i64 (k : Int) ∧ w.grownBy wr none ∧ ∀ j, j < k → (l.getD j (Na.e0, Na.e0)).1 ≠ o) (fun i _ _ => N - (intOf i).toNat)
  case atStart => exact ⟨0, by omega, rfl, grown_refl _ _, fun j hj => absurd hj (Nat.not_lt_zero _)⟩
  case round =>
    obtain ⟨k, hk, rfl, hg, h0⟩ := hrel
    have HG := Lib.hid hg
    have H0 := Lib.hid h0
    clear hg h0
    by_cases hkN : k < N
    · obtain ⟨x0, x1⟩ := HX1.out wr HG.out k hkN
      obtain rfl := HA1.out (by omega)
      have HC := Lib.hid (HOf.out wr HG.out (l.getD k (Na.e0, Na.e0)))
      by_cases he : (l.getD k (Na.e0, Na.e0)).1 = o
      · rw [decide_eq_true he] at HC
        have HY : Hid (R = k) := Lib.hid (HF.out k hkN H0.out he)
        generalize (l.getD k (Na.e0, Na.e0)).1 = p1 at *
        generalize (l.getD k (Na.e0, Na.e0)).2 = p2 at *
        clear he
        go_wp2_with (go_at_call 17; refine HC.out.mono ?_; rintro e w2 ⟨rfl, hg2⟩; have HG2 := Lib.hid (grown_trans HG.out hg2); clear hg2)
        go_ret
        exact ⟨by rw [HY.out]; rfl, HG2.out⟩
      · rw [decide_eq_false he] at HC
        have HN2 : Hid (∀ j, j < k + 1 → (l.getD j (Na.e0, Na.e0)).1 ≠ o) := Lib.hid (fun j hj => by
          rcases Nat.lt_or_ge j k with h | h
          · exact H0.out j h
          · obtain rfl : j = k := by omega
            exact he)
        generalize (l.getD k (Na.e0, Na.e0)).1 = p1 at *
        generalize (l.getD k (Na.e0, Na.e0)).2 = p2 at *
        clear he
        go_wp2_with (go_at_call 17; refine HC.out.mono ?_; rintro e w2 ⟨rfl, hg2⟩; have HG2 := Lib.hid (grown_trans HG.out hg2); clear hg2)
        go_roundw
        case rel => exact ⟨k + 1, by omega, by go_num, HG2.out, HN2.out⟩
        case measure => simp [intOf]; omega
    · obtain rfl : k = N := by omega
      have HY : Hid (R = -1) := Lib.hid (HNn.out H0.out)
      go_wp2
      go_ret
      exact ⟨by rw [HY.out]; rfl, HG.out⟩
set_option maxRecDepth 100000 in
set_option maxHeartbeats 2000000 in
theorem of1_any (v : Value) (l : List Na.Pr) (o : ByteArray) (pb : Nat) (w : World) (hP : Prts w v l) (hp : w.cell? ⟨pb, 0, none⟩ = some v) (hl : l.length ≤ 1000) :
    Calls Tryd.prog 15 #[.string o, .pointer (some ⟨pb, 0, none⟩)] w fun e w' => e = .returned (.string (Na.firstOf o l)) ∧ w.grownBy w' none := by
  have hlt : pb < w.heap.size := World.block_lt_of_cell? w _ hp
  have HIx := Lib.hid (ixParts_any v l o w.heap.size (w.alloc (.cells #[.string o] 9)) (hP.grown (World.grownBy_alloc _ _ _)) (cell_blk (alloc_at w _) 0 rfl) hl)
  have HPb := Lib.hid (fun W (hg : w.grownBy W none) => (World.cell?_of_block (hg.block pb hlt (by simp))).trans hp)
  obtain ⟨a1, b1, s1, c1, rfl, ha1, hx1⟩ := hP
  have HX1 := Lib.hid (fun W (hg : w.grownBy W none) i (hi : i < l.length) => (show W.cell? ⟨b1, s1 + i * 2 + 1, none⟩ = some (.string (l.getD i (Na.e0, Na.e0)).2) from by
    have hb := hg.block b1 (ha1 (by omega)).2 (by simp)
    exact (World.cell?_of_block hb).trans (hx1 i hi).2))
  have HA1 : Hid (0 < l.length → a1 = some ⟨b1, s1, none⟩) := Lib.hid (fun h => (ha1 h).1)
  have HG0 := Lib.hid (World.grownBy_alloc w (.cells #[.string o] 9) none)
  obtain ⟨N, hN⟩ : ∃ N, N = l.length := ⟨_, rfl⟩
  have hic := ix_cases l o
  rw [← hN] at HX1 HA1 HIx hp HPb
  rw [← hN] at hic
  have hNl : N ≤ 1000 := by omega
  obtain ⟨R, hR⟩ : ∃ R, R = Na.firstOf o l := ⟨_, rfl⟩
  rw [← hR] at hic ⊢
  clear ha1 hx1 hN hR hl
  rcases hic with ⟨j, hj, hRj, hij⟩ | ⟨hR0, hij⟩
  · rw [hij] at HIx
    have HRj := Lib.hid hRj
    have HJ := Lib.hid hj
    have hj0 : (0 : Int) ≤ (j : Int) := by omega
    have hjN : (j : Int) < (N : Int) := by omega
    obtain rfl := HA1.out (by omega)
    clear hij hRj
    go_enter Tryd.func15, Tryd.ntmps15
    go_wp2_with (go_at_call 16; refine HIx.out.mono ?_; rintro e w2 ⟨rfl, hg2⟩; have hg := grown_trans HG0.out hg2; have q1 := HPb.out _ hg; have q2 := HX1.out _ hg j HJ.out; have HG2 := Lib.hid hg; clear hg hg2)
    go_ret
    exact ⟨by rw [HRj.out]; rfl, HG2.out⟩
  · rw [hij] at HIx
    have HR0 := Lib.hid hR0
    clear hij hR0
    go_enter Tryd.func15, Tryd.ntmps15
    go_wp2_with (go_at_call 16; refine HIx.out.mono ?_; rintro e w2 ⟨rfl, hg2⟩; have HG2 := Lib.hid (grown_trans HG0.out hg2); clear hg2)
    go_ret
    exact ⟨by rw [HR0.out]; rfl, HG2.out⟩
end Go.Proofs.YtepjjgplnmkjgaaDoor
